import PyProof.Rows.All
import Wide.All
import OpenK.AllK
import Wide.FinOn
import PyProof.EqAt
import PyProof.EqKinds
import PyProof.TupleCall
import HandS.ForMost
import HandS.ForExc
import HandS.Gcd
import HandS.WideBits
import HandS.IsInst
import HandS.ExcInit
import HandS.RaiseMore
import HandS.TryMany
import HandS.Wide
import HandS.TupMul
import HandS.TupAny
import HandS.ExcField
import HandS.ExcIs
import PyProof.ReprRoads
import PyProof.Rows.IntBool
import HandS.Style
import HandS.Iter
import HandS.Rev
import PyProof.EnumMake
import KE.GoesMore
import HandS.Comp
import HandS.ExcOwn
import KE.KExcIs
import HandS.Small
import HandS.WordsExc
import HandS.HotCalls
import HandS.ExcInitHot
import HandS.Ends
import PySem.Challenge.RW_whichpaces_k16_counts_and_floors_refused
set_option Elab.async false
set_option linter.all false
set_option maxRecDepth 100000
set_option maxHeartbeats 4000000
/-! Sh, part A: plain values, their relation to the tracked heap, results. -/
namespace Sh
open PySem PySem.Spec PyProof.Rows L2

/-- a plain value: tuples are trees, lists stand in a store and are told by their number; a locked list is a tree; rep d is the text repr gives of the datum d -/
inductive C where
  | non | bl (b : Bool) | int (i : Int) | str (x : Str) | tup (xs : List C) | ref (n : Nat) | frz (xs : List C) | rep (d : PyData)
deriving Inhabited

abbrev Hc := List (List C)
abbrev Sl := List (Option C)

/-- a list that none writes: one that stood before, one of the program's own -/
def FzL (K : PySem.W.Frag) (H : Hp) (a : Addr) (vs : List V) : Prop :=
  (∃ o, H a = some (.frz o (.lst vs))) ∨ ∃ (o : Obj) (its : Array Value) (n : Nat), K.lookup a = some o ∧ o.cls = .type "list" ∧ o.dict = none ∧ o.data = .seq its n ∧ its.size ≤ sizeLine ∧ Vals vs its.toList
theorem FzL.sq {K : PySem.W.Frag} {H : Hp} {a : Addr} {vs : List V} (h : FzL K H a vs) : SqL K H a vs := by
  rcases h with ⟨o, h⟩ | h
  · exact .inl (.inr ⟨o, h⟩)
  · exact .inr h
mutual
def RV (K : PySem.W.Frag) (m : List Addr) (H : Hp) : C → V → Prop
  | .non, v => v = .non
  | .bl b, v => v = .bl b
  | .int i, v => v = .int i
  | .str x, v => v = .str x
  | .tup cs, v => ∃ a vs, v = .ref a ∧ SqT K H a vs ∧ RVs K m H cs vs
  | .ref n, v => ∃ a, m[n]? = some a ∧ v = .ref a
  | .frz cs, v => ∃ a vs, v = .ref a ∧ FzL K H a vs ∧ RVs K m H cs vs
  | .rep d, v => v = .str d.shown ∧ d.canLay0 = true
def RVs (K : PySem.W.Frag) (m : List Addr) (H : Hp) : List C → List V → Prop
  | [], vs => vs = []
  | c :: cs, vs => ∃ v r, vs = v :: r ∧ RV K m H c v ∧ RVs K m H cs r
end

/-- what stays from one moment to a later one -/
structure Ext (K : PySem.W.Frag) (m : List Addr) (H : Hp) (m' : List Addr) (H' : Hp) : Prop where
  pre : ∀ (n : Nat) (a : Addr), m[n]? = some a → m'[n]? = some a
  fr : ∀ b o, H b = some o → b ∉ m → b ∉ m' ∧ H' b = some o
  tu : ∀ a xs, SqT K H a xs → SqT K H' a xs
  fz : ∀ a o u, H a = some (.frz o u) → H' a = some (.frz o u)

section
variable {K : PySem.W.Frag} {m m' m2 : List Addr} {H H' H2 : Hp}
theorem Ext.refl : Ext K m H m H := ⟨fun _ _ h => h, fun _ _ h n => ⟨n, h⟩, fun _ _ h => h, fun _ _ _ h => h⟩
theorem Ext.trans (a : Ext K m H m' H') (b : Ext K m' H' m2 H2) : Ext K m H m2 H2 :=
  ⟨fun n x h => b.pre n x (a.pre n x h), fun x o h n => let ⟨n1, h1⟩ := a.fr x o h n; b.fr x o h1 n1, fun x xs h => b.tu x xs (a.tu x xs h), fun x o u h => b.fz x o u (a.fz x o u h)⟩

mutual
theorem RV.ext (e : Ext K m H m' H') : ∀ {c : C} {v : V}, RV K m H c v → RV K m' H' c v
  | .non, _, h => h
  | .bl _, _, h => h
  | .int _, _, h => h
  | .str _, _, h => h
  | .tup cs, _, h => by
    obtain ⟨a, vs, e1, e2, e3⟩ := h
    exact ⟨a, vs, e1, e.tu _ _ e2, RVs.ext e e3⟩
  | .ref n, _, h => by
    obtain ⟨a, e1, e2⟩ := h
    exact ⟨a, e.pre _ _ e1, e2⟩
  | .frz cs, _, h => by
    obtain ⟨a, vs, e1, e2, e3⟩ := h
    exact ⟨a, vs, e1, e2.imp (fun ⟨o, q⟩ => ⟨o, e.fz _ _ _ q⟩) id, RVs.ext e e3⟩
  | .rep d, _, h => h
theorem RVs.ext (e : Ext K m H m' H') : ∀ {cs : List C} {vs : List V}, RVs K m H cs vs → RVs K m' H' cs vs
  | [], _, h => h
  | c :: cs, _, h => by
    obtain ⟨v, r, e1, e2, e3⟩ := h
    exact ⟨v, r, e1, RV.ext e e2, RVs.ext e e3⟩
end

theorem RVs.length : ∀ {cs : List C} {vs : List V}, RVs K m H cs vs → cs.length = vs.length
  | [], _, h => by cases h; rfl
  | c :: cs, _, h => by
    obtain ⟨v, r, rfl, _, e3⟩ := h
    simp [RVs.length e3]
theorem RVs.get : ∀ {cs : List C} {vs : List V} {i : Nat} {c : C}, RVs K m H cs vs → cs[i]? = some c → ∃ v, vs[i]? = some v ∧ RV K m H c v
  | [], _, _, _, _, h => by simp at h
  | c :: cs, _, 0, x, h, q => by
    obtain ⟨v, r, rfl, e2, e3⟩ := h
    simp at q
    subst q
    exact ⟨v, rfl, e2⟩
  | c :: cs, _, i + 1, x, h, q => by
    obtain ⟨v, r, rfl, e2, e3⟩ := h
    obtain ⟨w, h1, h2⟩ := RVs.get (i := i) e3 (by simpa using q)
    exact ⟨w, by simpa using h1, h2⟩
theorem RVs.append : ∀ {cs ds : List C} {vs ws : List V}, RVs K m H cs vs → RVs K m H ds ws → RVs K m H (cs ++ ds) (vs ++ ws)
  | [], _, _, _, h, q => by cases h; exact q
  | c :: cs, _, _, _, h, q => by
    obtain ⟨v, r, rfl, e2, e3⟩ := h
    exact ⟨v, r ++ _, rfl, e2, RVs.append e3 q⟩
theorem RVs.set : ∀ {cs : List C} {vs : List V} (i : Nat) {c : C} {v : V}, RVs K m H cs vs → RV K m H c v → RVs K m H (cs.set i c) (vs.set i v)
  | [], _, _, _, _, h, _ => by cases h; rfl
  | _ :: cs, _, 0, _, _, h, q => by
    obtain ⟨v, r, rfl, e2, e3⟩ := h
    exact ⟨_, _, rfl, q, e3⟩
  | _ :: cs, _, i + 1, _, _, h, q => by
    obtain ⟨v, r, rfl, e2, e3⟩ := h
    exact ⟨_, _, rfl, e2, RVs.set i e3 q⟩
theorem RVs.one {c : C} {v : V} (h : RV K m H c v) : RVs K m H [c] [v] := ⟨v, [], rfl, h, rfl⟩
theorem RVs.take : ∀ {cs : List C} {vs : List V} (n : Nat), RVs K m H cs vs → RVs K m H (cs.take n) (vs.take n)
  | _, _, 0, _ => rfl
  | [], _, n + 1, h => by cases h; rfl
  | c :: cs, _, n + 1, h => by
    obtain ⟨v, r, rfl, e2, e3⟩ := h
    exact ⟨v, r.take n, rfl, e2, RVs.take n e3⟩
theorem RVs.drop : ∀ {cs : List C} {vs : List V} (n : Nat), RVs K m H cs vs → RVs K m H (cs.drop n) (vs.drop n)
  | _, _, 0, h => h
  | [], _, n + 1, h => by cases h; rfl
  | c :: cs, _, n + 1, h => by
    obtain ⟨v, r, rfl, e2, e3⟩ := h
    exact RVs.drop n e3
theorem RVs.reverse {cs : List C} {vs : List V} (h : RVs K m H cs vs) : RVs K m H cs.reverse vs.reverse := by
  induction cs generalizing vs with
  | nil => cases h; rfl
  | cons c cs ih =>
    obtain ⟨v, r, rfl, e2, e3⟩ := h
    rw [List.reverse_cons, List.reverse_cons]
    exact RVs.append (ih e3) (RVs.one e2)
end

/-- the lists of the store stand at the addresses m -/
structure Rl (K : PySem.W.Frag) (m : List Addr) (h : Hc) (H : Hp) : Prop where
  len : m.length = h.length
  nd : m.Nodup
  at_ : ∀ (n : Nat) (a : Addr) (cs : List C), m[n]? = some a → h[n]? = some cs → ∃ vs, H a = some (.lst vs) ∧ RVs K m H cs vs
/-- the slots -/
structure RS (K : PySem.W.Frag) (m : List Addr) (H : Hp) (sl : Sl) (σ : L2.St) : Prop where
  len : sl.length = σ.length
  at_ : ∀ (i : Nat) (c : C), sl[i]? = some (some c) → ∃ v, σ[i]? = some (some v) ∧ RV K m H c v

section
variable {K : PySem.W.Frag} {m m' m2 : List Addr} {H H' H2 : Hp} {h : Hc} {sl : Sl} {σ : L2.St}
theorem RS.ext (r : RS K m H sl σ) (e : Ext K m H m' H') : RS K m' H' sl σ := ⟨r.len, fun i c q => let ⟨v, a, b⟩ := r.at_ i c q; ⟨v, a, b.ext e⟩⟩
theorem RS.set (r : RS K m H sl σ) (i : Nat) {c : C} {v : V} (q : RV K m H c v) : RS K m H (sl.set i (some c)) (σ.set i (some v)) := by
  refine ⟨by simp [r.len], fun j d e => ?_⟩
  by_cases hj : i = j
  · subst hj
    by_cases hi : i < sl.length
    · rw [List.getElem?_set_self hi] at e
      cases e
      exact ⟨v, List.getElem?_set_self (r.len ▸ hi), q⟩
    · rw [List.getElem?_eq_none (by simpa using hi)] at e
      cases e
  · rw [List.getElem?_set_ne hj] at e
    rw [List.getElem?_set_ne hj]
    exact r.at_ j d e
theorem RS.weak (r : RS K m H sl σ) {σ' : L2.St} {sl' : Sl} (hl : sl'.length = sl.length) (hl2 : σ'.length = σ.length) (hs : ∀ (i : Nat) (c : C), sl'[i]? = some (some c) → sl[i]? = some (some c) ∧ ∀ v, σ[i]? = some (some v) → σ'[i]? = some (some v)) : RS K m H sl' σ' :=
  ⟨by rw [hl, hl2, r.len], fun i c q => by
    obtain ⟨q1, q2⟩ := hs i c q
    obtain ⟨v, a, b⟩ := r.at_ i c q1
    exact ⟨v, q2 v a, b⟩⟩
/-- a new object that is no list of the store -/
theorem Ext.new {p : Addr} {o : HO} (hn : H p = none) : Ext K m H m (upd H p o) := by
  refine ⟨fun _ _ q => q, fun b u q n => ⟨n, by rw [upd_ne (ne_of_none q hn)]; exact q⟩, fun a xs q => ?_, fun a o u q => by rw [upd_ne (ne_of_none q hn)]; exact q⟩
  rcases q with (q | ⟨o, q⟩) | q
  · exact .inl (.inl (by rw [upd_ne (ne_of_none q hn)]; exact q))
  · exact .inl (.inr ⟨o, by rw [upd_ne (ne_of_none q hn)]; exact q⟩)
  · exact .inr q
theorem Rl.new {p : Addr} {o : HO} (r : Rl K m h H) (hn : H p = none) : Rl K m h (upd H p o) := by
  refine ⟨r.len, r.nd, fun n a cs e1 e2 => ?_⟩
  obtain ⟨vs, q1, q2⟩ := r.at_ n a cs e1 e2
  exact ⟨vs, by rw [upd_ne (ne_of_none q1 hn)]; exact q1, q2.ext (Ext.new hn)⟩
theorem Rl.out (r : Rl K m h H) {p : Addr} (hn : H p = none) : p ∉ m := fun hm => by
  obtain ⟨n, hn'⟩ := List.getElem?_of_mem hm
  have hl : n < h.length := by rw [← r.len]; exact (List.getElem?_eq_some_iff.mp hn').1
  obtain ⟨vs, q, _⟩ := r.at_ n p h[n] hn' (List.getElem?_eq_getElem hl)
  rw [hn] at q
  cases q
/-- a new list of the store -/
theorem Ext.newL {p : Addr} {o : HO} (hn : H p = none) : Ext K m H (m ++ [p]) (upd H p o) := by
  have e := Ext.new (K := K) (m := m) (o := o) hn
  refine ⟨fun n a q => ?_, fun b u q n => ?_, e.tu, e.fz⟩
  · rw [List.getElem?_append_left (List.getElem?_eq_some_iff.mp q).1]
    exact q
  · refine ⟨fun z => ?_, (e.fr b u q n).2⟩
    rcases List.mem_append.mp z with z | z
    · exact n z
    · have : b = p := by simpa using z
      rw [this, hn] at q
      cases q
theorem Rl.newL {p : Addr} {cs : List C} {vs : List V} (r : Rl K m h H) (hn : H p = none) (q : RVs K m H cs vs) : Rl K (m ++ [p]) (h ++ [cs]) (upd H p (.lst vs)) := by
  refine ⟨by simp [r.len], ?_, fun n a ds e1 e2 => ?_⟩
  · refine List.nodup_append.mpr ⟨r.nd, by simp, fun a ha b hb => ?_⟩
    have : b = p := by simpa using hb
    subst this
    rintro rfl
    exact r.out hn ha
  · by_cases hl : n < m.length
    · rw [List.getElem?_append_left hl] at e1
      rw [List.getElem?_append_left (r.len ▸ hl)] at e2
      obtain ⟨ws, q1, q2⟩ := r.at_ n a ds e1 e2
      exact ⟨ws, by rw [upd_ne (ne_of_none q1 hn)]; exact q1, q2.ext (Ext.newL hn)⟩
    · have hn' : n = m.length := by
        have := (List.getElem?_eq_some_iff.mp e1).1
        simp at this
        omega
      subst hn'
      rw [List.getElem?_append_right (Nat.le_refl _)] at e1
      rw [r.len, List.getElem?_append_right (Nat.le_refl _)] at e2
      simp at e1 e2
      subst e1 e2
      exact ⟨vs, upd_same, q.ext (Ext.newL hn)⟩
/-- a list of the store is written -/
theorem Ext.write {a : Addr} {vs : List V} {o : HO} (ha : a ∈ m) (hv : H a = some (.lst vs)) : Ext K m H m (upd H a o) := by
  have ne : ∀ {b : Addr} {u : HO}, H b = some u → u ≠ .lst vs → b ≠ a := fun {b u} q d z => by
    rw [z, hv] at q
    exact d (Option.some.inj q).symm
  refine ⟨fun _ _ q => q, fun b u q n => ⟨n, by rw [upd_ne (fun z : b = a => n (by rw [z]; exact ha))]; exact q⟩, fun b xs q => ?_, fun b o u q => by rw [upd_ne (ne q (by intro z; cases z))]; exact q⟩
  rcases q with (q | ⟨o, q⟩) | q
  · exact .inl (.inl (by rw [upd_ne (ne q (by intro z; cases z))]; exact q))
  · exact .inl (.inr ⟨o, by rw [upd_ne (ne q (by intro z; cases z))]; exact q⟩)
  · exact .inr q
theorem Rl.write {n : Nat} {a : Addr} {cs : List C} {vs ws : List V} (r : Rl K m h H) (hm : m[n]? = some a) (hv : H a = some (.lst vs)) (q : RVs K m H cs ws) : Rl K m (h.set n cs) (upd H a (.lst ws)) := by
  have ha : a ∈ m := List.mem_of_getElem? hm
  have ex : Ext K m H m (upd H a (.lst ws)) := Ext.write ha hv
  refine ⟨by simp [r.len], r.nd, fun k b ds e1 e2 => ?_⟩
  by_cases hk : n = k
  · subst hk
    rw [hm] at e1
    cases e1
    have hl : n < h.length := by rw [← r.len]; exact (List.getElem?_eq_some_iff.mp hm).1
    rw [List.getElem?_set_self hl] at e2
    cases e2
    exact ⟨ws, upd_same, q.ext ex⟩
  · rw [List.getElem?_set_ne hk] at e2
    obtain ⟨us, q1, q2⟩ := r.at_ k b ds e1 e2
    have hb : b ≠ a := by
      rintro rfl
      obtain ⟨l1, x1⟩ := List.getElem?_eq_some_iff.mp hm
      obtain ⟨l2, x2⟩ := List.getElem?_eq_some_iff.mp e1
      exact hk ((List.getElem_inj r.nd).mp (x1.trans x2.symm))
    exact ⟨us, by rw [upd_ne hb]; exact q1, q2.ext ex⟩
theorem Rl.get (r : Rl K m h H) {n : Nat} {a : Addr} (hm : m[n]? = some a) : ∃ cs vs, h[n]? = some cs ∧ H a = some (.lst vs) ∧ RVs K m H cs vs := by
  have hl : n < h.length := by rw [← r.len]; exact (List.getElem?_eq_some_iff.mp hm).1
  obtain ⟨vs, q1, q2⟩ := r.at_ n a _ hm (List.getElem?_eq_getElem hl)
  exact ⟨_, vs, List.getElem?_eq_getElem hl, q1, q2⟩
theorem Rl.get' (r : Rl K m h H) {n : Nat} {a : Addr} {cs : List C} (hm : m[n]? = some a) (hc : h[n]? = some cs) : ∃ vs, H a = some (.lst vs) ∧ RVs K m H cs vs := r.at_ n a cs hm hc
end

/-- the end of an expression: a value, an exception by its number with its fields' values, or out of what is told here -/
inductive R (α : Type) where
  | ok (a : α) (h : Hc) | err (k : Nat) (xs : List C) (h : Hc) | bad
def R.bind {α β : Type} : R α → (α → Hc → R β) → R β
  | .ok a h, f => f a h
  | .err k xs h, _ => .err k xs h
  | .bad, _ => .bad

/-- exceptions' classes by number: where the class stands, its fields (the last one stored ahead) -/
abbrev ETab := Nat → Option (Addr × List Str)
/-- an exception of the class cls with its own dict d, as number k with the fields' values xs (in the order of storing) -/
def RX (et : ETab) (K : PySem.W.Frag) (m : List Addr) (H : Hp) (k : Nat) (xs : List C) (cls : Value) (d : Option Addr) : Prop :=
  ∃ A fs vs, et k = some (A, fs) ∧ cls = .ref A ∧ fs.length = vs.length ∧ RVs K m H xs vs ∧ ((fs = [] ∧ d = none) ∨ ∃ dd, d = some dd ∧ H dd = some (.xd (fs.zip vs).reverse) ∧ dd ∉ m)

section
variable {et : ETab} {K : PySem.W.Frag} {α β : Type}
theorem RX.ext {m m' : List Addr} {H H' : Hp} {k : Nat} {xs : List C} {cls : Value} {d : Option Addr} (x : RX et K m H k xs cls d) (e : Ext K m H m' H') : RX et K m' H' k xs cls d := by
  obtain ⟨A, fs, vs, h1, h2, h3, h4, h5⟩ := x
  refine ⟨A, fs, vs, h1, h2, h3, h4.ext e, ?_⟩
  rcases h5 with h5 | ⟨dd, e1, e2, e3⟩
  · exact .inl h5
  · obtain ⟨n, q⟩ := e.fr dd _ e2 e3
    exact .inr ⟨dd, e1, q, n⟩
/-- what holds behind: rel relates the plain result with the one of the layer; W: the wish about exceptions -/
def Post (et : ETab) (K : PySem.W.Frag) (W : Value → Option Addr → Hp → Prop) (m : List Addr) (H : Hp) (rel : List Addr → Hp → α → β → Prop) (Q : β → Hp → Prop) : R α → Prop
  | .ok a h' => ∀ m' H' v, Ext K m H m' H' → Rl K m' h' H' → rel m' H' a v → Q v H'
  | .err k xs h' => ∀ m' H' cls d, Ext K m H m' H' → Rl K m' h' H' → RX et K m' H' k xs cls d → W cls d H'
  | .bad => False
variable {W : Value → Option Addr → Hp → Prop} {m m' : List Addr} {H H' : Hp} {γ δ : Type} {rel : List Addr → Hp → α → β → Prop} {rel2 : List Addr → Hp → γ → δ → Prop} {Q : β → Hp → Prop} {Q2 : δ → Hp → Prop}
theorem Post.ext {r : R α} (p : Post et K W m H rel Q r) (e : Ext K m H m' H') : Post et K W m' H' rel Q r := by
  cases r with
  | ok a h => exact fun m2 H2 v x => p m2 H2 v (e.trans x)
  | err k xs h => exact fun m2 H2 c d x => p m2 H2 c d (e.trans x)
  | bad => exact p
theorem Post.bind {r : R α} {f : α → Hc → R γ} (p : Post et K W m H rel2 Q2 (r.bind f))
    (g : ∀ c h1, r = .ok c h1 → ∀ m1 H1 v, Ext K m H m1 H1 → Rl K m1 h1 H1 → rel m1 H1 c v → Post et K W m1 H1 rel2 Q2 (f c h1) → Q v H1) : Post et K W m H rel Q r := by
  cases r with
  | ok a h => exact fun m1 H1 v x rl rv => g a h rfl m1 H1 v x rl rv (Post.ext p x)
  | err k xs h => exact p
  | bad => exact p
theorem Post.imp {r : R α} {Q' : β → Hp → Prop} (p : Post et K W m H rel Q r) (g : ∀ m1 H1 c v h1, r = .ok c h1 → Ext K m H m1 H1 → Rl K m1 h1 H1 → rel m1 H1 c v → Q v H1 → Q' v H1) : Post et K W m H rel Q' r := by
  cases r with
  | ok a h => exact fun m1 H1 v x rl rv => g m1 H1 a v h rfl x rl rv (p m1 H1 v x rl rv)
  | err k xs h => exact p
  | bad => exact p
end
end Sh
set_option Elab.async false
set_option linter.all false
set_option autoImplicit false
set_option maxRecDepth 100000
set_option maxHeartbeats 4000000
/-! Sh, part B: the plain language and what it does. -/
namespace Sh
open PySem

inductive Cm where | eq | ne | lt | le | gt | ge | is_ | isn | in_ | nin
inductive Op where | add | sub | mul | div | mod | pow
inductive Ty where | int | bool | str | tuple | list | dict
inductive Bi where | len | abs | max2 | min2 | sum | gcd | divmod | repr | tuple | list | maxL | minL | int | bool | all | any

mutual
inductive E where
  | con (c : C) | var (i : Nat) | glob (x : Str) (c : C)
  | bin (o : Op) (a b : E) | neg (a : E) | notv (a : E)
  | cmp (o : Cm) (a b : E) | chain (o o' : Cm) (a b c : E)
  | andv (a b : E) | orv (a b : E) | ite (t : T) (a b : E)
  | tup (es : Es) | lst (es : Es) | idx (a i : E) | slc (a : E) (lo hi : Oe)
  | call (f : Nat) (es : Es) | callk (f : Nat) (es ks : Es) (perm : List Nat)
  | bi (b : Bi) (es : Es) | isi (a : E) (t : Ty) | pop (a : E)
  | comp (e : E) (p : Pt) (it : It) (t : T)
  | excf (j : Nat) | excis (x : Str) | revs (a : E)
inductive T where
  | yes | tr (a : E) | chn (o o' : Cm) (a b c : E) | cmp (o : Cm) (a b : E) | and (a b : T) | or (a b : T) | not (a : T)
inductive Es where
  | nil | cons (e : E) (es : Es)
inductive Oe where
  | none | some (e : E)
inductive It where
  | seq (a : E) | rng1 (a : E) | rng2 (a b : E) | rng3 (a b c : E) | enum (a : E) | zip (a b : E) | rev (a : E) | revr (a : E)
inductive Pt where
  | v (i : Nat) | sub (o i : E) | tup (ps : Pts)
inductive Pts where
  | nil | cons (p : Pt) (ps : Pts)
end

mutual
inductive S where
  | asg (p : Pt) (e : E) | setc (i : Nat) (e : E) | par (i j : Nat) (a b : E)
  | aug (i : Nat) (o : Op) (e : E) | augi (o i : E) (op : Op) (e : E)
  | ifs (t : T) (a b : Ss) | whl (t : T) (b : Ss) | for_ (p : Pt) (it : It) (b : Ss)
  | ret (e : E) | retn | expr (e : E) | app (o e : E) | raise (k : Nat) (es : Es) | brk | cnt | pass
  | try_ (b : Ss) (hs : Hs)
inductive Ss where
  | nil | cons (s : S) (ss : Ss)
inductive Hs where
  | nil | cons (ks : List Nat) (i : Nat) (b : Ss) (hs : Hs)
end

def gK {α : Type} (n k : Nat) (perm : List Nat) (us ws : List α) : List α := if us.length = n ∧ ws.length = k then us ++ perm.filterMap (fun i => ws[i]?) else []
def Pts.len : Pts → Nat
  | .nil => 0
  | .cons _ ps => ps.len + 1
def Es.len : Es → Nat
  | .nil => 0
  | .cons _ es => es.len + 1
def R.noerr {α : Type} : R α → R α
  | .err _ _ _ => .bad
  | r => r
/-! ### data -/
def toD (h : Hc) : Nat → C → Option PyData
  | 0, _ => none
  | n + 1, c => match c with
    | .non => some .none
    | .bl b => some (.bool b)
    | .int i => some (.int i)
    | .str x => some (.str x)
    | .tup cs => (cs.mapM (toD h n)).map .tuple
    | .ref k => match h[k]? with
      | some cs => (cs.mapM (toD h n)).map .list
      | none => none
    | .frz cs => (cs.mapM (toD h n)).map .list
    | .rep d => some (.str d.shown)
def datum (h : Hc) (c : C) : Option PyData := toD h 60 c
mutual
def pdEq : PyData → PyData → Bool
  | .none, .none => true
  | .bool a, .bool b => a == b
  | .int i, .int j => i == j
  | .str x, .str y => x == y
  | .list xs, .list ys => pdEqs xs ys
  | .tuple xs, .tuple ys => pdEqs xs ys
  | _, _ => false
def pdEqs : List PyData → List PyData → Bool
  | [], [] => true
  | x :: xs, y :: ys => pdEq x y && pdEqs xs ys
  | _, _ => false
end
/-- == of two values as data, by the data itself -/
def eqFar (h : Hc) (n : Nat) (x y : C) : Option Bool :=
  match toD h n x, toD h n y with
  | some a, some b => if SeqAt.shaped a && SeqAt.shaped b then some (a.eqv b) else none
  | _, _ => none
def both (f : C → C → Option Bool) : List C → List C → Option Bool
  | [], [] => some true
  | x :: xs, y :: ys => match f x y with
    | none => none
    | some b => match both f xs ys with
      | none => none
      | some c => some (b && c)
  | _, _ => none
def ceq (h : Hc) : Nat → C → C → Option Bool
  | 0, _, _ => none
  | n + 1, x, y => match x, y with
    | .rep d, .rep e => if pdEq d e then some true else eqFar h (n + 1) x y
    | .int i, .int j => some (i == j)
    | .tup xs, .tup ys => if xs.length = ys.length then both (ceq h n) xs ys else eqFar h (n + 1) x y
    | .ref a, .ref b => match h[a]?, h[b]? with
      | some xs, some ys => if xs.length = ys.length then both (ceq h n) xs ys else eqFar h (n + 1) x y
      | _, _ => none
    | _, _ => eqFar h (n + 1) x y

/-! ### operators -/
def big : Nat := 2 ^ 60000
@[irreducible] def tooBig (i : Int) : Bool := decide (big ≤ i.natAbs)
def seqOf (h : Hc) : C → Option (List C)
  | .ref n => h[n]?
  | .frz cs => some cs
  | .tup cs => some cs
  | _ => none
def lineN : Nat := 1000000
def addC (x y : C) (h : Hc) : R C :=
  match x, y with
  | .int i, .int j => .ok (.int (i + j)) h
  | .str x, .str y => if lineN < x.length + y.length then .bad else .ok (.str (x ++ y)) h
  | .tup xs, .tup ys => if lineN < xs.length + ys.length then .bad else .ok (.tup (xs ++ ys)) h
  | .ref a, .ref b => match h[a]?, h[b]? with
    | some xs, some ys => if lineN < xs.length + ys.length then .bad else .ok (.ref h.length) (h ++ [xs ++ ys])
    | _, _ => .bad
  | _, _ => .bad
def subC (x y : C) (h : Hc) : R C :=
  match x, y with
  | .int i, .int j => .ok (.int (i - j)) h
  | .bl a, .bl b => .ok (.int ((if a = true then 1 else 0) - (if b = true then 1 else 0))) h
  | _, _ => .bad
def mulC (x y : C) (h : Hc) : R C :=
  match x, y with
  | .int i, .int j => if tooBig i || tooBig j then .bad else .ok (.int (i * j)) h
  | .ref a, .int k => match h[a]? with
    | some xs => if k < 0 ∨ lineN < xs.length * k.toNat ∨ 1000000000 ≤ k then .bad else .ok (.ref h.length) (h ++ [(List.replicate k.toNat xs).flatten])
    | _ => .bad
  | .tup xs, .int k => if xs = [] ∨ k < 2 ∨ 1000 < k ∨ 1000 < xs.length then .bad else .ok (.tup (List.replicate k.toNat xs).flatten) h
  | _, _ => .bad
@[irreducible] def divLine : Nat := 2 ^ 8000
def divC (x y : C) (h : Hc) : R C :=
  match x, y with
  | .int i, .int j => if j = 0 ∨ divLine ≤ j.natAbs then .bad else .ok (.int (i.fdiv j)) h
  | _, _ => .bad
def modC (x y : C) (h : Hc) : R C :=
  match x, y with
  | .int i, .int j => if j = 0 then .bad else .ok (.int (i.fmod j)) h
  | _, _ => .bad
def powC (x y : C) (h : Hc) : R C :=
  match x, y with
  | .int i, .int j => if 0 ≤ j ∧ j ≤ 1000 ∧ i.natAbs < 18446744073709551616 then .ok (.int (i ^ j.toNat)) h else .bad
  | _, _ => .bad
def binop (o : Op) (x y : C) (h : Hc) : R C :=
  match o with
  | .add => addC x y h
  | .sub => subC x y h
  | .mul => mulC x y h
  | .div => divC x y h
  | .mod => modC x y h
  | .pow => powC x y h
/-- in place, of ints -/
def augC (o : Op) (i j : Int) (h : Hc) : R C :=
  match o with
  | .add => .ok (.int (i + j)) h
  | .sub => .ok (.int (i - j)) h
  | .mul => if tooBig i || tooBig j then .bad else .ok (.int (i * j)) h
  | _ => .bad
def isS : C → C → Option Bool
  | x, .non => match x with | .non => some true | _ => some false
  | .bl a, .bl b => some (decide (a = b))
  | _, _ => none
def cmpop (o : Cm) (x y : C) (h : Hc) : R C :=
  match o with
  | .eq => match ceq h 40 x y with
    | some b => .ok (.bl b) h
    | none => .bad
  | .ne => match ceq h 40 x y with
    | some b => .ok (.bl (!b)) h
    | none => .bad
  | .lt => match x, y with
    | .int i, .int j => .ok (.bl (decide (i < j))) h
    | _, _ => .bad
  | .le => match x, y with
    | .int i, .int j => .ok (.bl (decide (i ≤ j))) h
    | _, _ => .bad
  | .gt => match x, y with
    | .int i, .int j => .ok (.bl (decide (j < i))) h
    | _, _ => .bad
  | .ge => match x, y with
    | .int i, .int j => .ok (.bl (decide (j ≤ i))) h
    | _, _ => .bad
  | .is_ => match isS x y with
    | some b => .ok (.bl b) h
    | none => .bad
  | .isn => match isS x y with
    | some b => .ok (.bl (!b)) h
    | none => .bad
  | .in_ => .bad
  | .nin => .bad
def truth (x : C) (h : Hc) : R Bool :=
  match x with
  | .non => .ok false h
  | .bl b => .ok b h
  | .int i => .ok (i != 0) h
  | .str x => if x.length ≤ lineN then .ok ((x.length : Int) != 0) h else .bad
  | c => match seqOf h c with
    | some xs => .ok (!xs.isEmpty) h
    | none => .bad
def ixC (n : Nat) (i : Int) : Option Nat := if 0 ≤ i then (if i < n then some i.toNat else none) else if -(n : Int) ≤ i then some (i + n).toNat else none
def item (x y : C) (h : Hc) : R C :=
  match y with
  | .int i => match seqOf h x with
    | some xs => match (ixC xs.length i).bind fun j => xs[j]? with
      | some c => .ok c h
      | none => .bad
    | none => .bad
  | _ => .bad
def setitem (x y z : C) (h : Hc) : R Unit :=
  match x, y with
  | .ref n, .int i => match h[n]? with
    | some xs => match ixC xs.length i with
      | some j => .ok () (h.set n (xs.set j z))
      | none => .bad
    | none => .bad
  | _, _ => .bad
def sIxC (n d : Nat) : Option Int → Nat
  | none => d
  | some v => if v < 0 then (v + (n : Int)).toNat else min v.toNat n
def cutC (xs : List C) (lo hi : Option Int) : List C := (xs.drop (sIxC xs.length 0 lo)).take (sIxC xs.length xs.length hi - sIxC xs.length 0 lo)
def slice (x : C) (lo hi : Option Int) (h : Hc) : R C :=
  match x with
  | .ref n => match h[n]? with
    | some xs => .ok (.ref h.length) (h ++ [cutC xs lo hi])
    | none => .bad
  | .frz xs => .ok (.ref h.length) (h ++ [cutC xs lo hi])
  | .tup xs => .ok (.tup (cutC xs lo hi)) h
  | _ => .bad
def tyC : C → Option Ty
  | .bl _ => some .bool
  | .int _ => some .int
  | .str _ => some .str
  | .tup _ => some .tuple
  | .ref _ => some .list
  | .frz _ => some .list
  | .rep _ => some .str
  | .non => none
def isiT (o : Option Ty) (t : Ty) : Bool :=
  match o, t with
  | some .bool, .bool => true
  | some .bool, .int => true
  | some .int, .int => true
  | some .str, .str => true
  | some .tuple, .tuple => true
  | some .list, .list => true
  | some .dict, .dict => true
  | _, _ => false
def isiC (c : C) (t : Ty) : Bool := isiT (tyC c) t
def Ty.name : Ty → String
  | .int => "int" | .bool => "bool" | .str => "str" | .tuple => "tuple" | .list => "list" | .dict => "dict"
def tyName : Option Ty → String
  | none => "NoneType" | some t => t.name
def intsC : List C → Option (List Int)
  | [] => some []
  | .int i :: r => (intsC r).map (i :: ·)
  | _ => none
/-- the greatest, the least of a row of whole numbers -/
def maxI : Int → List Int → Int
  | x, [] => x
  | x, y :: r => maxI (if x < y then y else x) r
def minI : Int → List Int → Int
  | x, [] => x
  | x, y :: r => minI (if y < x then y else x) r
def shortD (d : PyData) : Bool := decide (d.weight ≤ 8000)
def bi (b : Bi) (xs : List C) (h : Hc) : R C :=
  match b with
  | .len => match xs with
    | [.str z] => if z.length ≤ lineN then .ok (.int z.length) h else .bad
    | [c] => match seqOf h c with
      | some ys => .ok (.int ys.length) h
      | none => .bad
    | _ => .bad
  | .abs => match xs with
    | [.int i] => .ok (.int (if i < 0 then -i else i)) h
    | _ => .bad
  | .max2 => match xs with
    | [.int i, .int j] => .ok (.int (if j > i then j else i)) h
    | _ => .bad
  | .min2 => match xs with
    | [.int i, .int j] => .ok (.int (if j < i then j else i)) h
    | _ => .bad
  | .sum => match xs with
    | [.ref n] => match (h[n]?).bind intsC with
      | some ns => .ok (.int ns.sum) h
      | none => .bad
    | _ => .bad
  | .gcd => match xs with
    | [.int i, .int j] => .ok (.int (Nat.gcd i.natAbs j.natAbs : Nat)) h
    | _ => .bad
  | .divmod => match xs with
    | [.int i, .int j] => if 0 < j ∧ j < 1000000000 then .ok (.tup [.int (i / j), .int (i % j)]) h else .bad
    | _ => .bad
  | .repr => match xs with
    | [c] => match datum h c with
      | some d => if d.showable && SeqAt.shaped d && shortD d then .ok (.rep d) h else .bad
      | none => .bad
    | _ => .bad
  | .tuple => match xs with
    | [.tup cs] => .ok (.tup cs) h
    | [.ref n] => match h[n]? with
      | some cs => .ok (.tup cs) h
      | none => .bad
    | _ => .bad
  | .list => match xs with
    | [c] => match seqOf h c with
      | some cs => .ok (.ref h.length) (h ++ [cs])
      | none => .bad
    | _ => .bad
  | .int => match xs with
    | [.int i] => .ok (.int i) h
    | _ => .bad
  | .maxL => match xs with
    | [.ref n] => match (h[n]?).bind intsC with
      | some (x :: r) => .ok (.int (maxI x r)) h
      | _ => .bad
    | _ => .bad
  | .minL => match xs with
    | [.ref n] => match (h[n]?).bind intsC with
      | some (x :: r) => .ok (.int (minI x r)) h
      | _ => .bad
    | _ => .bad
  | _ => .bad

/-! ### what is walked -/
inductive ItV where
  | lst (n : Nat) | tre (cs : List C) | rng (lo : Int) (n : Nat) | revl (n k : Nat) | revt (cs : List C) | enl (n : Nat) | ent (cs : List C)
/-- the i-th item: none: out of what is told; some none: the end -/
def ItV.at_ (it : ItV) (i : Nat) (h : Hc) : Option (Option C) :=
  match it with
  | .lst n => match h[n]? with
    | some cs => some cs[i]?
    | none => none
  | .tre cs => some cs[i]?
  | .rng lo n => if i < n then some (some (.int (lo + i))) else some none
  | .revl n k => if i < k then (match h[n]? with
    | some cs => (match cs[k - 1 - i]? with
      | some c => some (some c)
      | none => none)
    | none => none) else some none
  | .enl n => match h[n]? with
    | some cs => some (match cs[i]? with
      | some c => some (.tup [.int i, c])
      | none => none)
    | none => none
  | .ent cs => some (match cs[i]? with
    | some c => some (.tup [.int i, c])
    | none => none)
  | .revt cs => if i < cs.length then (match cs[cs.length - 1 - i]? with
    | some c => some (some c)
    | none => none) else some none

/-- a comprehension's turns -/
def compF (it : ItV) (g : C → Sl → Hc → R Sl) (t : Sl → Hc → R Bool) (e : Sl → Hc → R C) : Nat → Nat → Sl → List C → Hc → R (List C)
  | 0, _, _, _, _ => .bad
  | n + 1, i, sl, acc, h => match it.at_ i h with
    | none => .bad
    | some none => .ok acc h
    | some (some c) => (g c sl h).bind fun sl1 h1 => (t sl1 h1).bind fun k h2 => if k then (e sl1 h2).bind fun x h3 => if acc.length < lineN then compF it g t e n (i + 1) sl (acc ++ [x]) h3 else .bad
      else compF it g t e n (i + 1) sl acc h2
mutual
def Pt.slots : Pt → List Nat
  | .v i => [i]
  | .sub _ _ => []
  | .tup ps => Pts.slots ps
def Pts.slots : Pts → List Nat
  | .nil => []
  | .cons p ps => Pt.slots p ++ Pts.slots ps
end
def wipeC (sl : Sl) : List Nat → Sl
  | [] => sl
  | v :: vs => (wipeC sl vs).set v none
def Pt.wipe (p : Pt) (sl : Sl) : Sl := wipeC sl p.slots

section
variable (call : Nat → List C → Hc → R C) (sub : Nat → Str → Option Bool) (w : Nat) (cx : Option (Nat × List C))

mutual
def E.ev : E → Sl → Hc → R C
  | .con c, _, h => .ok c h
  | .var i, sl, h => match sl[i]? with
    | some (some c) => .ok c h
    | _ => .bad
  | .glob _ c, _, h => .ok c h
  | .bin o a b, sl, h => (E.ev a sl h).bind fun x h1 => (E.ev b sl h1).bind fun y h2 => binop o x y h2
  | .neg a, sl, h => (E.ev a sl h).bind fun x h1 => match x with
    | .int i => .ok (.int (-i)) h1
    | _ => .bad
  | .notv a, sl, h => (E.ev a sl h).bind fun x h1 => match x with
    | .bl b => .ok (.bl (!b)) h1
    | _ => .bad
  | .cmp o a b, sl, h => (E.ev a sl h).bind fun x h1 => (E.ev b sl h1).bind fun y h2 => cmpop o x y h2
  | .chain o o' a b c, sl, h => (E.ev a sl h).bind fun x h1 => (E.ev b sl h1).bind fun y h2 => (cmpop o x y h2).bind fun z h3 => match z with
    | .bl true => (E.ev c sl h3).bind fun u h4 => cmpop o' y u h4
    | .bl false => .ok (.bl false) h3
    | _ => .bad
  | .andv a b, sl, h => (E.ev a sl h).bind fun x h1 => match x with
    | .bl true => E.ev b sl h1
    | .bl false => .ok (.bl false) h1
    | _ => .bad
  | .orv a b, sl, h => (E.ev a sl h).bind fun x h1 => match x with
    | .bl false => E.ev b sl h1
    | .bl true => .ok (.bl true) h1
    | _ => .bad
  | .ite t a b, sl, h => (T.ev t sl h).bind fun k h1 => if k then E.ev a sl h1 else E.ev b sl h1
  | .tup es, sl, h => (Es.ev es sl h).bind fun xs h1 => if xs.length ≤ lineN then .ok (.tup xs) h1 else .bad
  | .lst es, sl, h => (Es.ev es sl h).bind fun xs h1 => if xs.length ≤ lineN then .ok (.ref h1.length) (h1 ++ [xs]) else .bad
  | .idx a i, sl, h => (E.ev a sl h).bind fun x h1 => (E.ev i sl h1).bind fun y h2 => item x y h2
  | .slc a lo hi, sl, h => (E.ev a sl h).bind fun x h1 => (Oe.ev lo sl h1).bind fun l h2 => (Oe.ev hi sl h2).bind fun u h3 => slice x l u h3
  | .call f es, sl, h => (Es.ev es sl h).bind fun xs h1 => call f xs h1
  | .callk f es ks perm, sl, h => (Es.ev es sl h).bind fun xs h1 => (Es.ev ks sl h1).bind fun ys h2 => call f (gK es.len ks.len perm xs ys) h2
  | .bi b es, sl, h => (Es.ev es sl h).bind fun xs h1 => bi b xs h1
  | .isi a t, sl, h => (E.ev a sl h).bind fun x h1 => .ok (.bl (isiC x t)) h1
  | .pop a, sl, h => (E.ev a sl h).bind fun x h1 => match x with
    | .ref n => match h1[n]? with
      | some xs => match xs[xs.length - 1]? with
        | some c => .ok c (h1.set n xs.dropLast)
        | none => .bad
      | none => .bad
    | _ => .bad
  | .comp e p it t, sl, h => (It.ev it sl h).bind fun v h1 => (compF v (fun c sl h => Pt.put p c sl h) (fun sl h => T.ev t sl h) (fun sl h => E.ev e sl h) w 0 (p.wipe sl) [] h1).noerr.bind fun xs h2 => .ok (.ref h2.length) (h2 ++ [xs])
  | .revs a, sl, h => (E.ev a sl h).bind fun x h1 => match x with
    | .ref n => match h1[n]? with
      | some cs => .ok (.ref h1.length) (h1 ++ [cs.reverse])
      | none => .bad
    | .frz cs => .ok (.ref h1.length) (h1 ++ [cs.reverse])
    | _ => .bad
  | .excf j, _, h => match cx with
    | some (_, xs) => match xs[j]? with
      | some c => .ok c h
      | none => .bad
    | none => .bad
  | .excis x, _, h => match cx with
    | some (k, _) => match sub k x with
      | some b => .ok (.bl b) h
      | none => .bad
    | none => .bad
def T.ev : T → Sl → Hc → R Bool
  | .yes, _, h => .ok true h
  | .tr a, sl, h => (E.ev a sl h).bind fun x h1 => truth x h1
  | .cmp o a b, sl, h => (E.ev a sl h).bind fun x h1 => (E.ev b sl h1).bind fun y h2 => (cmpop o x y h2).bind fun z h3 => match z with
    | .bl k => .ok k h3
    | _ => .bad
  | .chn o o' a b c, sl, h => (E.ev a sl h).bind fun x h1 => (E.ev b sl h1).bind fun y h2 => (cmpop o x y h2).bind fun z h3 => match z with
    | .bl true => (E.ev c sl h3).bind fun u h4 => (cmpop o' y u h4).bind fun z h5 => match z with
      | .bl k => .ok k h5
      | _ => .bad
    | .bl false => .ok false h3
    | _ => .bad
  | .and a b, sl, h => (T.ev a sl h).bind fun k h1 => if k then T.ev b sl h1 else .ok false h1
  | .or a b, sl, h => (T.ev a sl h).bind fun k h1 => if k then .ok true h1 else T.ev b sl h1
  | .not a, sl, h => (T.ev a sl h).bind fun k h1 => .ok (!k) h1
def Es.ev : Es → Sl → Hc → R (List C)
  | .nil, _, h => .ok [] h
  | .cons e es, sl, h => (E.ev e sl h).bind fun x h1 => (Es.ev es sl h1).bind fun xs h2 => .ok (x :: xs) h2
def Oe.ev : Oe → Sl → Hc → R (Option Int)
  | .none, _, h => .ok none h
  | .some e, sl, h => (E.ev e sl h).bind fun x h1 => match x with
    | .int i => .ok (some i) h1
    | _ => .bad
def It.ev : It → Sl → Hc → R ItV
  | .seq a, sl, h => (E.ev a sl h).bind fun x h1 => match x with
    | .ref n => .ok (.lst n) h1
    | .tup cs => .ok (.tre cs) h1
    | _ => .bad
  | .rng1 a, sl, h => (E.ev a sl h).bind fun x h1 => match x with
    | .int j => if -1000000000 < j ∧ j < 1000000000 then .ok (.rng 0 j.toNat) h1 else .bad
    | _ => .bad
  | .rng2 a b, sl, h => (E.ev a sl h).bind fun x h1 => (E.ev b sl h1).bind fun y h2 => match x, y with
    | .int i, .int j => if -1000000 < i ∧ i < 1000000 ∧ -1000000 < j ∧ j < 1000000 then .ok (.rng i (j - i).toNat) h2 else .bad
    | _, _ => .bad
  | .enum a, sl, h => (E.ev a sl h).bind fun x h1 => match x with
    | .ref n => .ok (.enl n) h1
    | .tup cs => .ok (.ent cs) h1
    | _ => .bad
  | .rev a, sl, h => (E.ev a sl h).bind fun x h1 => match x with
    | .ref n => (match h1[n]? with
      | some cs => .ok (.revl n cs.length) h1
      | none => .bad)
    | .tup cs => .ok (.revt cs) h1
    | _ => .bad
  | _, _, _ => .bad
def Pt.put : Pt → C → Sl → Hc → R Sl
  | .v i, c, sl, h => .ok (sl.set i (some c)) h
  | .sub o i, c, sl, h => (E.ev o sl h).noerr.bind fun x h1 => (E.ev i sl h1).noerr.bind fun y h2 => (setitem x y c h2).bind fun _ h3 => .ok sl h3
  | .tup ps, c, sl, h => match c with
    | .tup cs => if cs.length = ps.len then Pts.put ps cs sl h else .bad
    | _ => .bad
def Pts.put : Pts → List C → Sl → Hc → R Sl
  | .nil, cs, sl, h => match cs with
    | [] => .ok sl h
    | _ :: _ => .bad
  | .cons p ps, cs, sl, h => match cs with
    | [] => .bad
    | c :: cs => (Pt.put p c sl h).bind fun sl1 h1 => Pts.put ps cs sl1 h1
end
end

/-- the end of a statement -/
inductive RS' where
  | nx (sl : Sl) (h : Hc) | ret (c : C) (h : Hc) | bk (sl : Sl) (h : Hc) | ct (sl : Sl) (h : Hc) | err (k : Nat) (xs : List C) (sl : Sl) (h : Hc) | bad
/-- an expression, then on -/
def R.th {α : Type} (r : R α) (sl : Sl) (f : α → Hc → RS') : RS' :=
  match r with
  | .ok a h => f a h
  | .err k xs h => .err k xs sl h
  | .bad => .bad
def RS'.th (r : RS') (f : Sl → Hc → RS') : RS' :=
  match r with
  | .nx sl h => f sl h
  | r => r
def whileF (t : Sl → Hc → R Bool) (b : Sl → Hc → RS') : Nat → Sl → Hc → RS'
  | 0, _, _ => .bad
  | n + 1, sl, h => (t sl h).th sl fun k h1 => if k then
      (match b sl h1 with
        | .nx sl2 h2 => whileF t b n sl2 h2
        | .ct sl2 h2 => whileF t b n sl2 h2
        | .bk sl2 h2 => .nx sl2 h2
        | r => r)
    else .nx sl h1
def forF (it : ItV) (g : C → Sl → Hc → R Sl) (b : Sl → Hc → RS') : Nat → Nat → Sl → Hc → RS'
  | 0, _, _, _ => .bad
  | n + 1, i, sl, h => match it.at_ i h with
    | none => .bad
    | some none => .nx sl h
    | some (some c) => (g c sl h).noerr.th sl fun sl1 h1 => match b sl1 h1 with
      | .nx sl2 h2 => forF it g b n (i + 1) sl2 h2
      | .ct sl2 h2 => forF it g b n (i + 1) sl2 h2
      | .bk sl2 h2 => .nx sl2 h2
      | r => r

section
variable (call : Nat → List C → Hc → R C) (sub : Nat → Str → Option Bool) (w : Nat)
mutual
def S.ev : S → Option (Nat × List C) → Sl → Hc → RS'
  | .asg p e, cx, sl, h => (E.ev call sub w cx e sl h).th sl fun c h1 => (Pt.put call sub w cx p c sl h1).noerr.th sl fun sl1 h2 => .nx sl1 h2
  | .par i j a b, cx, sl, h => (E.ev call sub w cx a sl h).th sl fun x h1 => (E.ev call sub w cx b sl h1).th sl fun y h2 => .nx ((sl.set i (some x)).set j (some y)) h2
  | .aug i o e, cx, sl, h => match sl[i]? with
    | some (some x) => (E.ev call sub w cx e sl h).th sl fun y h1 => (match x, y with
      | .int a, .int b => (augC o a b h1).th sl fun z h2 => .nx (sl.set i (some z)) h2
      | _, _ => .bad)
    | _ => .bad
  | .augi o i op e, cx, sl, h => (E.ev call sub w cx o sl h).th sl fun x h1 => (E.ev call sub w cx i sl h1).th sl fun y h2 => (match x with
    | .ref _ => (item x y h2).th sl fun old h3 => (E.ev call sub w cx e sl h3).th sl fun v h4 => (match old, v with
      | .int a, .int b => (augC op a b h4).th sl fun new h5 => (setitem x y new h5).th sl fun _ h6 => .nx sl h6
      | _, _ => .bad)
    | _ => .bad)
  | .ifs t a b, cx, sl, h => (T.ev call sub w cx t sl h).th sl fun k h1 => if k then Ss.ev a cx sl h1 else Ss.ev b cx sl h1
  | .whl t b, cx, sl, h => whileF (T.ev call sub w cx t) (Ss.ev b cx) w sl h
  | .for_ p it b, cx, sl, h => (It.ev call sub w cx it sl h).th sl fun v h1 => forF v (Pt.put call sub w cx p) (Ss.ev b cx) w 0 sl h1
  | .ret e, cx, sl, h => (E.ev call sub w cx e sl h).th sl fun c h1 => .ret c h1
  | .retn, _, _, h => .ret .non h
  | .expr e, cx, sl, h => (E.ev call sub w cx e sl h).th sl fun _ h1 => .nx sl h1
  | .app o e, cx, sl, h => (E.ev call sub w cx o sl h).th sl fun x h1 => (match x with
    | .ref n => (E.ev call sub w cx e sl h1).th sl fun y h2 => (match h2[n]? with
      | some xs => if xs.length < lineN then .nx sl (h2.set n (xs ++ [y])) else .bad
      | none => .bad)
    | _ => .bad)
  | .setc i e, cx, sl, h => (E.ev call sub w cx e sl h).th sl fun c h1 => .nx (sl.set i (some c)) h1
  | .raise k es, cx, sl, h => (Es.ev call sub w cx es sl h).th sl fun xs h1 => .err k xs sl h1
  | .brk, _, sl, h => .bk sl h
  | .cnt, _, sl, h => .ct sl h
  | .pass, _, sl, h => .nx sl h
  | .try_ b hs, cx, sl, h => match cx with
    | some _ => .bad
    | none => match Ss.ev b none sl h with
      | .err k xs sl1 h1 => Hs.ev hs k xs sl1 h1
      | r => r
def Ss.ev : Ss → Option (Nat × List C) → Sl → Hc → RS'
  | .nil, _, sl, h => .nx sl h
  | .cons s ss, cx, sl, h => (S.ev s cx sl h).th fun sl1 h1 => Ss.ev ss cx sl1 h1
/-- the clauses: the exception's number is among ks; behind the suite the name is gone -/
def Hs.ev : Hs → Nat → List C → Sl → Hc → RS'
  | .nil, k, xs, sl, h => .err k xs sl h
  | .cons ks i b hs, k, xs, sl, h => if ks.contains k then
      (match Ss.ev b (some (k, xs)) (sl.set i none) h with
        | .nx sl2 h2 => .nx (sl2.set i none) h2
        | .ret c h2 => .ret c h2
        | .bk sl2 h2 => .bk (sl2.set i none) h2
        | .ct sl2 h2 => .ct (sl2.set i none) h2
        | _ => .bad)
    else Hs.ev hs k xs sl h
end
end

/-- a def: how many names it has, how many parameters, its body -/
structure Fn where
  n : Nat
  np : Nat
  body : Ss
mutual
def C.under (n : Nat) : C → Bool
  | .tup cs => C.unders n cs
  | .ref k => decide (k < n)
  | .frz cs => C.unders n cs
  | _ => true
def C.unders (n : Nat) : List C → Bool
  | [] => true
  | c :: cs => C.under n c && C.unders n cs
end
/-- what a call leaves: new lists that nothing old or told holds are let go -/
def tidy (n : Nat) (c : C) (h : Hc) : R C :=
  if c.under n && (h.take n).all (C.unders n) then .ok c (h.take n) else .ok c h
def tidyX (n : Nat) (k : Nat) (xs : List C) (h : Hc) : R C :=
  if C.unders n xs && (h.take n).all (C.unders n) then .err k xs (h.take n) else .err k xs h
def run (fns : Nat → Option Fn) (sub : Nat → Str → Option Bool) (w : Nat) : Nat → Nat → List C → Hc → R C
  | 0, _, _, _ => .bad
  | d + 1, f, xs, h => match fns f with
    | none => .bad
    | some fn => if xs.length = fn.np ∧ fn.np ≤ fn.n then
        (match Ss.ev (run fns sub w d) sub w fn.body none (xs.map some ++ List.replicate (fn.n - fn.np) none) h with
          | .nx _ h1 => tidy h.length .non h1
          | .ret c h1 => tidy h.length c h1
          | .err k ys _ h1 => tidyX h.length k ys h1
          | _ => .bad)
      else .bad
end Sh
set_option Elab.async false
set_option linter.all false
set_option autoImplicit false
set_option maxRecDepth 100000
set_option maxHeartbeats 4000000
/-! Sh, part C: a def's promise where no repr is under way; readings over plain values. -/
namespace Sh
open PySem PySem.Spec PyProof.Rows L2

/-- FnOk where nothing guards around -/
structure FnOkG (P : Program) (w : World) (K : PySem.W.Frag) (mg : Str → Option Value) (base : Heap) (k : Nat) (f : Addr) (fd : FuncData) (ps : List Str) (sp : Sp) : Prop where
  len : ∀ vs H Q E, sp vs H Q E → vs.length = ps.length
  run : ∀ (A : Around) (outer : List Env) (s : Shared) (H : Hp) (args : Args) (us : List Value) (vs : List V) (Q : VK) (E : XK), A.guards = some [] → Room k A → Env0 P w K mg base A outer s H → BindsTo s fd args (ps.zip us) → Vals vs us → sp vs H Q E →
    codeAny (model P w) A (.call (.ref f) args) (CR (L2.CX P w) outer P w H s Q E) s

section
variable {P : Program} {w : World} {K : PySem.W.Frag} {mg : Str → Option Value} {base : Heap}
theorem FnOkG.mono {j k : Nat} {f : Addr} {fd : FuncData} {ps : List Str} {sp : Sp} (F : FnOkG P w K mg base j f fd ps sp) (h : j ≤ k) : FnOkG P w K mg base k f fd ps sp :=
  ⟨F.len, fun A outer s H args us vs Q E hg hr => F.run A outer s H args us vs Q E hg (hr.mono h)⟩
theorem FnOkG.imp {k : Nat} {f : Addr} {fd : FuncData} {ps : List Str} {sp sp' : Sp} (F : FnOkG P w K mg base k f fd ps sp) (h : ∀ vs H Q E, sp' vs H Q E → sp vs H Q E) : FnOkG P w K mg base k f fd ps sp' :=
  ⟨fun vs H Q E q => F.len vs H Q E (h _ _ _ _ q), fun A outer s H args us vs Q E hg hr he hb hv hs => F.run A outer s H args us vs Q E hg hr he hb hv (h _ _ _ _ hs)⟩
/-- a def by its body -/
theorem Fun.okG {x qual : Str} {st : Stmt} {f : Addr} {fd : FuncData} {N ps : List Str} {k : Nat} {sp : Sp} (F : Fun K x qual st f fd) (S : FnScope N ps (defScope st)) (len : ∀ vs H Q E, sp vs H Q E → vs.length = ps.length)
    (hbody : ∀ (cdv : Value) (A : Around) (outer : List Env) (s : Shared) (H : Hp) (vs : List V) (Q : VK) (E : XK), A.guards = some [] → Room k (A.deeper (envOfC qual (defScope st) s.heap.objs.size f cdv)) → sp vs H Q E →
      ∃ t, PSs (cxOf (L2.CX P w) P w K mg base N qual (defScope st) f cdv A outer s H E) (defBody st) t ∧ t { nx := fun _ H' => Q .non H', rt := Q } (start N vs) H) : FnOkG P w K mg base (k + 1) f fd ps sp := by
  obtain ⟨oc, od, kV, doc, pm, an, cdv, ct, osl, rfl, lk, hcd⟩ := F.ex
  refine ⟨len, fun A outer s H args us vs Q E hg hr e0 hb r hsp => ?_⟩
  have hl := len _ _ _ _ hsp
  have KX : K.In s.heap := e0.mod.kin.keeps fun b o e => (e0.bs b o e).1
  have lim : s.heap.NoLimit := e0.mod.nolimit.keeps fun b o e => (e0.bs b o e).1
  have hkind : ∀ y ∈ ps.zip us, (defScope st).names.lookup y.1 = some .local ∨ ((defScope st).names.lookup y.1 = some .cell ∧ ((cellsFrom (s.heap.objs.size + 1) (defScope st).names []).lookup y.1).isSome = true) := fun ⟨n, v⟩ hy => by
    rcases S.par n (List.of_mem_zip hy).1 with q | q
    · exact .inl q
    · exact .inr ⟨q, PySem.W.cellsFrom_some _ _ _ (.inl q)⟩
  refine codeAny_call_function hr.depth (KX _ _ lk) rfl S.co S.gen rfl (PySem.W.codeRec_of KX hcd) (hb _ _ _ _ ?_)
  refine wpAny_newFunctionEnv_cells S.kind hkind fun env he s1 x => ?_
  subst he
  refine ⟨lim.keeps x.toInCall.keep, codeAny_func ?_⟩
  obtain ⟨t, ht, hq⟩ := hbody cdv A outer s H vs Q E hg (hr.deeper _) hsp
  have I : Inv (cxOf (L2.CX P w) P w K mg base N qual (defScope st) f cdv A outer s H E) [] (start N vs) H s1 := inv_start S hr.hd e0 hl r x
  refine wpAny_mono (ht.run [] s1 (start N vs) H _ I hq) (fun fl s' hs => ?_) fun e s' hs => hs
  have fin : ∀ {σ' : L2.St} {H' : Hp} {v : V} {u : Value}, Inv (cxOf (L2.CX P w) P w K mg base N qual (defScope st) f cdv A outer s H E) [] σ' H' s' → RelV v u → Q v H' → CE outer P w H s Q u s' :=
    fun {σ' H' v u} J rv q => ⟨v, H', J.os, J.bare, J.base, J.hok, rv, q⟩
  cases fl with
  | ret u =>
    obtain ⟨v, σ', H', J, rv, q⟩ := hs
    exact fin J rv q
  | next =>
    obtain ⟨σ', H', J, q⟩ := hs
    exact fin (v := V.non) (u := Value.none) J rfl q
  | brk =>
    obtain ⟨_, _, _, q⟩ := hs
    exact False.elim q
  | cont =>
    obtain ⟨_, _, _, q⟩ := hs
    exact False.elim q
end

section
variable {X : Cx} {k : Nat} {f : Addr} {fd : FuncData} {ps ks : List Str} {sp : Sp} {E : L2.St → XK} {x : Str} {p pos : Pos} {e : Expr} {es : List Expr} {t tk : TA} {kws : List Keyword} {g : List Value → List Value → List Value} {gV : List V → List V → List V}
theorem run_g {pins : List (Addr × Obj)} {σ : L2.St} {H : Hp} {s : Shared} {Q : VK} {us : List Value} {vs : List V} (F : FnOkG X.prog X.w X.K X.mg X.base k f fd ps sp) (hg : X.A.guards = some []) (hr : Room k X.A) (hb : Binds X.K fd ps []) (hx : PassesAt (L2.CX X.prog X.w) X σ (E σ))
    (I : Inv X pins σ H s) (r : Vals vs us) (h : sp vs H Q (E σ)) : wpAny (model X.prog X.w) X.A (call (.ref f) us) (EP X pins σ Q) X.xe s := by
  have hl : us.length = ps.length := by rw [← r.length]; exact F.len _ _ _ _ h
  have b := hb s us I.kIn (by rw [List.append_nil]; exact hl)
  rw [List.append_nil] at b
  refine wpAny_call (codeAny_mono (F.run X.A X.stack s H ⟨us, []⟩ us vs Q (E σ) hg hr I.env0 b r h) fun r s' hq => ?_)
  cases r with
  | error e => exact hx pins H s e s' I hq
  | ok fl =>
    cases fl with
    | ret u => exact I.after hq
    | next => exact False.elim hq
    | brk => exact False.elim hq
    | cont => exact False.elim hq
theorem run_gk {pins : List (Addr × Obj)} {σ : L2.St} {H : Hp} {s : Shared} {Q : VK} {us ws : List Value} {vs zs : List V} (F : FnOkG X.prog X.w X.K X.mg X.base k f fd ps sp) (hg : X.A.guards = some []) (hr : Room k X.A) (hb : KBinds X.K fd ps ks g gV) (hx : PassesAt (L2.CX X.prog X.w) X σ (E σ))
    (I : Inv X pins σ H s) (r : Vals vs us) (rz : Vals zs ws) (h : sp (gV vs zs) H Q (E σ)) : wpAny (model X.prog X.w) X.A (call (.ref f) us (ks.zip ws)) (EP X pins σ Q) X.xe s := by
  have r2 := hb.rel r rz
  have hl : (g us ws).length = ps.length := by rw [← r2.length]; exact F.len _ _ _ _ h
  refine wpAny_call (codeAny_mono (F.run X.A X.stack s H ⟨us, ks.zip ws⟩ (g us ws) (gV vs zs) Q (E σ) hg hr I.env0 (hb.to s us ws I.kIn hl) r2 h) fun r s' hq => ?_)
  cases r with
  | error e => exact hx pins H s e s' I hq
  | ok fl =>
    cases fl with
    | ret u => exact I.after hq
    | next => exact False.elim hq
    | brk => exact False.elim hq
    | cont => exact False.elim hq
theorem pe_g (F : FnOkG X.prog X.w X.K X.mg X.base k f fd ps sp) (hgu : X.A.guards = some []) (hr : Room k X.A) (hg : Gl X x) (hm : X.mg x = some (.ref f)) (hk : PySem.W.keepIn X.K (.ref f) = true) (hb : Binds X.K fd ps []) (hx : ∀ σ, PassesAt (L2.CX X.prog X.w) X σ (E σ))
    (ha : PA X (e :: es) t) (hdb : (x == ("__debug__" : Str)) = false) (he : starEach (e :: es) X.env = (false, eval e X.env) :: starEach es X.env) (hpl : (backTo pos (starEach es X.env)).any (·.1) = false) :
    PE X (.Call (.Name x p) (e :: es) [] pos) (tCallS sp E t) := by
  refine ⟨fun pins s σ H Q I h => ?_⟩
  refine wpAny_Call_Name_kw (ld_glob I hg hm ?_ hdb)
  refine PySem.W.callWith_K (h₀ := X.base) I.ok.mod.kin hk (thn (ha.run pos pins s σ H _ I h) fun us s1 ⟨vs, H1, I1, r, q⟩ => ⟨I1.kIn, ?_⟩) he hpl
  exact run_g F hgu hr hb (hx σ) I1 r q
theorem pe_g0 (F : FnOkG X.prog X.w X.K X.mg X.base k f fd ps sp) (hgu : X.A.guards = some []) (hr : Room k X.A) (hg : Gl X x) (hm : X.mg x = some (.ref f)) (hk : PySem.W.keepIn X.K (.ref f) = true) (hb : Binds X.K fd ps []) (hx : ∀ σ, PassesAt (L2.CX X.prog X.w) X σ (E σ))
    (hdb : (x == ("__debug__" : Str)) = false) : PE X (.Call (.Name x p) [] [] pos) (tCallS sp E tNil) := by
  refine ⟨fun pins s σ H Q I h => ?_⟩
  refine wpAny_Call_Name_kw (ld_glob I hg hm ?_ hdb)
  exact PySem.W.callWith_K0 I.kIn hk (run_g (us := []) F hgu hr hb (hx σ) I .nil h)
def tCallSK (sp : Sp) (gV : List V → List V → List V) (E : L2.St → XK) (t tk : TA) : TE := fun σ H Q => t σ H fun vs H1 => tk σ H1 fun zs H2 => sp (gV vs zs) H2 Q (E σ)
theorem pe_gk (F : FnOkG X.prog X.w X.K X.mg X.base k f fd ps sp) (hgu : X.A.guards = some []) (hr : Room k X.A) (hg : Gl X x) (hm : X.mg x = some (.ref f)) (hk : PySem.W.keepIn X.K (.ref f) = true) (hb : KBinds X.K fd ps ks g gV) (hx : ∀ σ, PassesAt (L2.CX X.prog X.w) X σ (E σ))
    (ha : PA X (e :: es) t) (hkw : PK X kws tk) (hall : (backToKw pos (keywordEach kws X.env)).all (·.1.isSome) = true) (hks : (backToKw pos (keywordEach kws X.env)).filterMap (·.1) = ks)
    (hdb : (x == ("__debug__" : Str)) = false) (he : starEach (e :: es) X.env = (false, eval e X.env) :: starEach es X.env)
    (hpl : ((backTo pos (starEach (e :: es) X.env)).any (·.1) || (backToKw pos (keywordEach kws X.env)).any (·.1.isNone)) = false) :
    PE X (.Call (.Name x p) (e :: es) kws pos) (tCallSK sp gV E t tk) := by
  refine ⟨fun pins s σ H Q I h => ?_⟩
  refine wpAny_Call_Name_kw (ld_glob I hg hm ?_ hdb)
  refine PySem.W.callWith_KW (h₀ := X.base) I.ok.mod.kin hk hall (thn (ha.run pos pins s σ H _ I h) fun us s1 ⟨vs, H1, I1, r, q⟩ => ?_) hpl he
  refine thn (hkw.run pos pins s1 σ H1 _ I1 q) fun ws s2 ⟨zs, H2, I2, rz, q2⟩ => ⟨I2.kIn, ?_⟩
  rw [hks]
  exact run_gk F hgu hr hb (hx σ) I2 r rz q2
end

/-! ### readings over plain values -/
section
variable (et : ETab) (K : PySem.W.Frag)
def relV : List Addr → Hp → C → V → Prop := fun m H c v => RV K m H c v
def relVs : List Addr → Hp → List C → List V → Prop := fun m H c v => RVs K m H c v
def relB {α : Type} : List Addr → Hp → α → α → Prop := fun _ _ a b => b = a
def tE (W : WX) (f : Sl → Hc → R C) : TE := fun σ H Q => ∃ m sl h, Rl K m h H ∧ RS K m H sl σ ∧ Post et K (fun c d H' => W c d σ H') m H (relV K) Q (f sl h)
def tT (W : WX) (f : Sl → Hc → R Bool) : TT := fun σ H Q => ∃ m sl h, Rl K m h H ∧ RS K m H sl σ ∧ Post et K (fun c d H' => W c d σ H') m H relB Q (f sl h)
def tA (W : WX) (f : Sl → Hc → R (List C)) : TA := fun σ H Q => ∃ m sl h, Rl K m h H ∧ RS K m H sl σ ∧ Post et K (fun c d H' => W c d σ H') m H (relVs K) Q (f sl h)
def tO (W : WX) (f : Sl → Hc → R (Option Int)) : TO := fun σ H Q => ∃ m sl h, Rl K m h H ∧ RS K m H sl σ ∧ Post et K (fun c d H' => W c d σ H') m H relB Q (f sl h)
end
theorem _root_.L2.PE.imp {X : Cx} {e : Expr} {t t' : TE} (h : PE X e t) (hi : ∀ σ H Q, t' σ H Q → t σ H Q) : PE X e t' := ⟨fun pins s σ H Q I q => h.run pins s σ H Q I (hi _ _ _ q)⟩
theorem _root_.L2.PT.imp {X : Cx} {e : Expr} {t t' : TT} (h : PT X e t) (hi : ∀ σ H Q, t' σ H Q → t σ H Q) : PT X e t' := ⟨fun pins s σ H Q I q => h.run pins s σ H Q I (hi _ _ _ q)⟩
theorem _root_.L2.PW.imp {X : Cx} {e : Expr} {t t' : TT} (h : PW X e t) (hi : ∀ σ H Q, t' σ H Q → t σ H Q) : PW X e t' := ⟨fun wh pins s σ H Q I q => h.run wh pins s σ H Q I (hi _ _ _ q)⟩
theorem _root_.L2.PA.imp {X : Cx} {es : List Expr} {t t' : TA} (h : PA X es t) (hi : ∀ σ H Q, t' σ H Q → t σ H Q) : PA X es t' := ⟨fun pos pins s σ H Q I q => h.run pos pins s σ H Q I (hi _ _ _ q)⟩
theorem _root_.L2.PS.imp {X : Cx} {st : Stmt} {t t' : TS} (h : PS X st t) (hi : ∀ D σ H, t' D σ H → t D σ H) : PS X st t' := ⟨fun pins s σ H D I q => h.run pins s σ H D I (hi _ _ _ q)⟩
theorem _root_.L2.PSs.imp {X : Cx} {st : List Stmt} {t t' : TS} (h : PSs X st t) (hi : ∀ D σ H, t' D σ H → t D σ H) : PSs X st t' := ⟨fun pins s σ H D I q => h.run pins s σ H D I (hi _ _ _ q)⟩
end Sh
set_option Elab.async false
set_option linter.all false
set_option autoImplicit false
set_option maxRecDepth 100000
set_option maxHeartbeats 4000000
/-! Sh, part D: operators over plain values do what the machine does. -/
namespace Sh
open PySem PySem.Spec PyProof.Rows L2

theorem bb_sub (a b : Bool) : Gives (Builtin.«int.__sub__» ⟨[.bool a, .bool b], []⟩) (.int ((if a = true then (1 : Int) else 0) - (if b = true then (1 : Int) else 0))) :=
  .of_wp fun M A E s Q h => by obtain ⟨hp, g, d, tk, os⟩ := s; wp_walk; exact ⟨_, rfl, h⟩
theorem sub_bool_bool {prog : Program} {w : World} {A : Around} {E : Value → Shared → Prop} {s : Shared} {Q : Value → Shared → Prop} {a b : Bool}
    (h : Q (.int ((if a = true then (1 : Int) else 0) - (if b = true then (1 : Int) else 0)) s.toks) { s with toks := s.toks + 1 }) : wpAny (model prog w) A (binaryOp .Sub (.bool a) (.bool b)) Q E s :=
  binaryOp_gives (op := .Sub) (T := "bool") rfl rfl F.fills_bool_sub F.slot_bool_sub F.entry_int_sub (F.args_int_sub_2 _ _) (bb_sub a b) trivial h

section
variable {X : Cx} {et : ETab} {W : Value → Option Addr → Hp → Prop} {m : List Addr} {H : Hp} {h : Hc} {x y : C} {v u : V} {Q : VK}
theorem op_subBB : OpR X (binaryOp .Sub) (fun x y H Q => ∃ a b, x = .bl a ∧ y = .bl b ∧ Q (.int ((if a = true then (1 : Int) else 0) - (if b = true then (1 : Int) else 0))) H) := by
  intro pins s σ H x y v u Q I rx ry h
  obtain ⟨i, k, rfl, rfl, q⟩ := h
  cases rx
  cases ry
  exact sub_bool_bool ⟨.int _, H, I.tok _, ⟨_, rfl⟩, q⟩
def CDivX (_ j : Int) : Prop := j ≠ 0 ∧ j.natAbs.log2 < 9000
theorem op_fdivX : OpR X (binaryOp .FloorDiv) (rI CDivX fun i j => .int (i.fdiv j)) := opI fun _ _ _ _ _ _ _ hc q => floordiv_int hc.1 q (.inl (PyProof.noPylong_of_log2 hc.2))

def opr : Op → Operator
  | .add => .Add | .sub => .Sub | .mul => .Mult | .div => .FloorDiv | .mod => .Mod | .pow => .Pow

/-- a tuple of the store's values is laid -/
theorem tup_laid {K : PySem.W.Frag} {cs : List C} {vs : List V} {p : Addr} (q : RVs K m H cs vs) (hn : H p = none) : RV K m (upd H p (.tup vs)) (.tup cs) (.ref p) :=
  ⟨p, vs, rfl, SqT.of upd_same, q.ext (Ext.new hn)⟩
theorem lst_laid {K : PySem.W.Frag} {p : Addr} {o : HO} (rl : Rl K m h H) : RV K (m ++ [p]) (upd H p o) (.ref h.length) (.ref p) :=
  ⟨p, by rw [← rl.len, List.getElem?_append_right (Nat.le_refl _)]; simp, rfl⟩
theorem seq_read {K : PySem.W.Frag} {c : C} {v : V} {xs : List C} (rl : Rl K m h H) (rv : RV K m H c v) (e : seqOf h c = some xs) : ∃ a vs, v = .ref a ∧ (SqL K H a vs ∨ SqT K H a vs) ∧ RVs K m H xs vs := by
  cases c with
  | ref n =>
    obtain ⟨a, e1, e2⟩ := rv
    obtain ⟨vs, q1, q2⟩ := rl.at_ n a xs e1 e
    exact ⟨a, vs, e2, .inl (SqL.of q1), q2⟩
  | tup cs =>
    obtain ⟨a, vs, e1, e2, e3⟩ := rv
    cases e
    exact ⟨a, vs, e1, .inr e2, e3⟩
  | frz cs =>
    obtain ⟨a, vs, e1, e2, e3⟩ := rv
    cases e
    exact ⟨a, vs, e1, .inl e2.sq, e3⟩
  | non => cases e
  | bl _ => cases e
  | int _ => cases e
  | str _ => cases e
  | rep _ => cases e
theorem line_le {n : Nat} (h : n ≤ lineN) : n ≤ sizeLine := by rw [sizeLine_eq]; unfold lineN at h; omega
theorem line_lt {n : Nat} (h : n < lineN) : n < sizeLine := by rw [sizeLine_eq]; unfold lineN at h; omega
theorem RVs.flat {K : PySem.W.Frag} {cs : List C} {vs : List V} (q : RVs K m H cs vs) : ∀ k : Nat, RVs K m H (List.replicate k cs).flatten (List.replicate k vs).flatten
  | 0 => rfl
  | k + 1 => by
    rw [List.replicate_succ, List.replicate_succ, List.flatten_cons, List.flatten_cons]
    exact RVs.append q (RVs.flat q k)
theorem small_of {i : Int} (h : tooBig i = false) : i.natAbs < 2 ^ 60000 := by
  unfold tooBig at h
  have h1 : ¬ big ≤ i.natAbs := of_decide_eq_false h
  exact Nat.lt_of_not_le fun z => h1 (by unfold big; exact z)

/-- arithmetic -/
theorem binop_ok (o : Op) : ∃ r : R2, OpR X (binaryOp (opr o)) r ∧ ∀ (m : List Addr) (H : Hp) (h : Hc) (x y : C) (v u : V) (Q : VK), Rl X.K m h H → RV X.K m H x v → RV X.K m H y u → Post et X.K W m H (relV X.K) Q (binop o x y h) → r v u H Q := by
  cases o with
  | add =>
    refine ⟨_, op_add.or (op_cat.or (op_catA.or op_add_str)), fun m H h x y v u Q rl rx ry p => ?_⟩
    replace p : Post et X.K W m H (relV X.K) Q (addC x y h) := p
    cases x <;> cases y <;> try (exact False.elim p)
    · rename_i i j
      exact .inl ⟨i, j, rx, ry, p m H _ Ext.refl rl rfl⟩
    · rename_i i j
      unfold addC at p
      simp only at p
      split at p
      · exact False.elim p
      · rename_i hz
        exact .inr (.inr (.inr ⟨i, j, rx, ry, line_le (by omega), p m H _ Ext.refl rl rfl⟩))
    · rename_i xs ys
      unfold addC at p
      simp only at p
      split at p
      · exact False.elim p
      · rename_i hn
        obtain ⟨a, vs, e1, e2, e3⟩ := rx
        obtain ⟨b, us, f1, f2, f3⟩ := ry
        have l1 := e3.length
        have l2 := f3.length
        refine .inr (.inr (.inl ⟨a, b, vs, us, e1, f1, e2, f2, by rw [← l1, ← l2]; exact line_le (by omega), fun z => ?_, fun _ z => ?_, fun _ _ p' hp => ?_⟩))
        · have : xs = [] := List.eq_nil_of_length_eq_zero (by rw [l1, z]; rfl)
          subst this
          exact p m _ _ Ext.refl rl ⟨b, us, rfl, f2, f3⟩
        · have : ys = [] := List.eq_nil_of_length_eq_zero (by rw [l2, z]; rfl)
          subst this
          rw [List.append_nil] at p
          exact p m _ _ Ext.refl rl ⟨a, vs, rfl, e2, e3⟩
        · exact p m _ _ (Ext.new hp) (rl.new hp) (tup_laid (RVs.append e3 f3) hp)
    · rename_i a b
      unfold addC at p
      simp only at p
      split at p
      · rename_i xs ys e1 e2
        split at p
        · exact False.elim p
        · rename_i hz
          obtain ⟨a', q1, q2⟩ := rx
          obtain ⟨b', r1, r2⟩ := ry
          obtain ⟨vs, s1, s2⟩ := rl.at_ _ _ _ q1 e1
          obtain ⟨us, t1, t2⟩ := rl.at_ _ _ _ r1 e2
          refine .inr (.inl ⟨a', b', vs, us, q2, r2, s1, t1, by rw [← s2.length, ← t2.length]; exact line_le (by omega), fun p' hp => ?_⟩)
          exact p _ _ _ (Ext.newL hp) (rl.newL hp (RVs.append s2 t2)) (lst_laid rl)
      · exact False.elim p
  | sub =>
    refine ⟨_, op_sub.or op_subBB, fun m H h x y v u Q rl rx ry p => ?_⟩
    replace p : Post et X.K W m H (relV X.K) Q (subC x y h) := p
    cases x <;> cases y <;> try (exact False.elim p)
    · rename_i i j
      exact .inr ⟨i, j, rx, ry, p m H _ Ext.refl rl rfl⟩
    · rename_i i j
      exact .inl ⟨i, j, rx, ry, p m H _ Ext.refl rl rfl⟩
  | mul =>
    refine ⟨_, op_mulX.or (op_rep.or op_repT), fun m H h x y v u Q rl rx ry p => ?_⟩
    replace p : Post et X.K W m H (relV X.K) Q (mulC x y h) := p
    cases x <;> cases y <;> try (exact False.elim p)
    · rename_i i j
      unfold mulC at p
      simp only at p
      split at p
      · exact False.elim p
      · rename_i hb
        have hb' : tooBig i = false ∧ tooBig j = false := by
          cases h1 : tooBig i <;> cases h2 : tooBig j <;> simp_all
        exact .inl ⟨i, j, rx, ry, mulx_ok (a := 60000) (b := 60000) (small_of hb'.1) (small_of hb'.2) (by omega), p m H _ Ext.refl rl rfl⟩
    · rename_i xs k
      unfold mulC at p
      simp only at p
      split at p
      · exact False.elim p
      · rename_i hz
        obtain ⟨a, vs, e1, e2, e3⟩ := rx
        have l1 := e3.length
        have z1 : vs ≠ [] := by rintro rfl; simp at l1; exact hz (.inl l1)
        have z2 : ¬ k < 2 := fun z => hz (.inr (.inl z))
        have z3 : ¬ 1000 < k := fun z => hz (.inr (.inr (.inl z)))
        have z4 : ¬ 1000 < xs.length := fun z => hz (.inr (.inr (.inr z)))
        refine .inr (.inr ⟨a, k, vs, e1, ry, e2, z1, by omega, by omega, by omega, fun p' hp => ?_⟩)
        exact p m _ _ (Ext.new hp) (rl.new hp) (tup_laid (RVs.flat e3 _) hp)
    · rename_i a k
      unfold mulC at p
      simp only at p
      split at p
      · rename_i xs e1
        split at p
        · exact False.elim p
        · rename_i hz
          obtain ⟨a', q1, q2⟩ := rx
          obtain ⟨vs, s1, s2⟩ := rl.at_ _ _ _ q1 e1
          have z1 : ¬ k < 0 := fun z => hz (.inl z)
          have z2 : ¬ lineN < xs.length * k.toNat := fun z => hz (.inr (.inl z))
          have z3 : ¬ 1000000000 ≤ k := fun z => hz (.inr (.inr z))
          refine .inr (.inl ⟨a', k, vs, q2, ry, s1, by omega, by omega, by rw [← s2.length]; exact line_le (by omega), fun p' hp => ?_⟩)
          exact p _ _ _ (Ext.newL hp) (rl.newL hp (RVs.flat s2 _)) (lst_laid rl)
      · exact False.elim p
  | div =>
    refine ⟨_, op_fdivX, fun m H h x y v u Q rl rx ry p => ?_⟩
    replace p : Post et X.K W m H (relV X.K) Q (divC x y h) := p
    cases x <;> cases y <;> try (exact False.elim p)
    rename_i i j
    unfold divC at p
    simp only at p
    split at p
    · exact False.elim p
    · rename_i hz
      have z1 : j ≠ 0 := fun z => hz (.inl z)
      have z2 : j.natAbs < 2 ^ 8000 := Nat.lt_of_not_le fun z => hz (.inr (by unfold divLine; exact z))
      exact ⟨i, j, rx, ry, ⟨z1, Nat.lt_of_lt_of_le (PySem.Flt.log2_lt_of (by omega) z2) (by omega)⟩, p m H _ Ext.refl rl rfl⟩
  | mod =>
    refine ⟨_, op_modN, fun m H h x y v u Q rl rx ry p => ?_⟩
    replace p : Post et X.K W m H (relV X.K) Q (modC x y h) := p
    cases x <;> cases y <;> try (exact False.elim p)
    rename_i i j
    unfold modC at p
    simp only at p
    split at p
    · exact False.elim p
    · rename_i hz
      exact ⟨i, j, rx, ry, hz, p m H _ Ext.refl rl rfl⟩
  | pow =>
    refine ⟨_, op_pow, fun m H h x y v u Q rl rx ry p => ?_⟩
    replace p : Post et X.K W m H (relV X.K) Q (powC x y h) := p
    cases x <;> cases y <;> try (exact False.elim p)
    rename_i i j
    unfold powC at p
    simp only at p
    split at p
    · rename_i hz
      exact ⟨i, j, rx, ry, ⟨hz.1, by omega, by omega⟩, p m H _ Ext.refl rl rfl⟩
    · exact False.elim p

/-! ### data -/
theorem mapM_dp {K : PySem.W.Frag} {f : C → Option PyData} (ih : ∀ c v d, RV K m H c v → f c = some d → Dp K H v d) : ∀ (cs : List C) (vs : List V) (ds : List PyData), RVs K m H cs vs → cs.mapM f = some ds → DpAll K H vs ds
  | [], _, ds, q, e => by
    cases q
    simp at e
    subst e
    exact .nil
  | c :: cs, _, ds, q, e => by
    obtain ⟨v, r, rfl, q1, q2⟩ := q
    rw [List.mapM_cons] at e
    cases h1 : f c with
    | none => rw [h1] at e; simp at e
    | some d =>
      cases h2 : cs.mapM f with
      | none => rw [h1, h2] at e; simp at e
      | some ds' =>
        rw [h1, h2] at e
        simp at e
        subst e
        exact .cons (ih c v d q1 h1) (mapM_dp ih cs r ds' q2 h2)
theorem toD_dp {K : PySem.W.Frag} (rl : Rl K m h H) : ∀ (n : Nat) (c : C) (v : V) (d : PyData), RV K m H c v → toD h n c = some d → Dp K H v d
  | 0, _, _, _, _, e => by cases e
  | n + 1, c, v, d, rv, e => by
    have ih := fun c v d => toD_dp rl n c v d
    cases c with
    | non => cases rv; cases e; exact .non
    | bl b => cases rv; cases e; exact .bl b
    | int i => cases rv; cases e; exact .int i
    | str x => cases rv; cases e; exact .str x
    | rep d => obtain ⟨rfl, _⟩ := rv; cases e; exact .str _
    | tup cs =>
      obtain ⟨a, vs, rfl, e2, e3⟩ := rv
      have e' : (cs.mapM (toD h n)).map PyData.tuple = some d := e
      cases hm : cs.mapM (toD h n) with
      | none => rw [hm] at e'; cases e'
      | some ds =>
        rw [hm] at e'
        cases e'
        exact .tup e2 (mapM_dp ih cs vs ds e3 hm)
    | frz cs =>
      obtain ⟨a, vs, rfl, e2, e3⟩ := rv
      have e' : (cs.mapM (toD h n)).map PyData.list = some d := e
      cases hm : cs.mapM (toD h n) with
      | none => rw [hm] at e'; cases e'
      | some ds =>
        rw [hm] at e'
        cases e'
        exact .lst e2.sq (mapM_dp ih cs vs ds e3 hm)
    | ref k =>
      obtain ⟨a, e1, rfl⟩ := rv
      have e' : (match h[k]? with | some cs => (cs.mapM (toD h n)).map PyData.list | none => none) = some d := e
      cases hk : h[k]? with
      | none => rw [hk] at e'; cases e'
      | some cs =>
        rw [hk] at e'
        obtain ⟨vs, q1, q2⟩ := rl.at_ _ _ _ e1 hk
        have e2 : (cs.mapM (toD h n)).map PyData.list = some d := e'
        cases hm : cs.mapM (toD h n) with
        | none => rw [hm] at e2; cases e2
        | some ds =>
          rw [hm] at e2
          cases e2
          exact .lst (SqL.of q1) (mapM_dp ih cs vs ds q2 hm)

/-! ### comparisons -/
def cmr : Cm → CmpOp
  | .eq => .Eq | .ne => .NotEq | .lt => .Lt | .le => .LtE | .gt => .Gt | .ge => .GtE | .is_ => .Is | .isn => .IsNot | .in_ => .In | .nin => .NotIn
def isV : V → V → Option Bool
  | x, .non => some (decide (x = .non))
  | .bl a, .bl b => some (a == b)
  | .bl _, _ => none
  | _, .bl _ => some false
  | _, _ => none
end
end Sh
set_option Elab.async false
set_option linter.all false
set_option autoImplicit false
set_option maxRecDepth 100000
set_option maxHeartbeats 4000000
/-! Sh, part E0: texts that repr gives; == of data. -/
namespace Sh
open PySem PySem.Spec PyProof.Rows L2

/-! ### texts that repr gives are texts -/
def cpsOk (x : Str) : Prop := ∀ c ∈ x.cps.toList, c < 0x110000
theorem strOk_iff (x : Str) : PyData.strOk x = true ↔ cpsOk x := by
  unfold PyData.strOk cpsOk
  rw [Array.all_eq_true_iff_forall_mem]
  constructor
  · intro h c hc
    simpa using h c (Array.mem_toList_iff.mp hc)
  · intro h c hc
    simpa using h c (Array.mem_toList_iff.mpr hc)
theorem cpsOk_of (z : String) : cpsOk (Str.ofString z) := by
  unfold cpsOk Str.ofString
  intro c hc
  have hc' : c ∈ cpsOfBytes 0 0 z.toByteArray.data.toList := by simpa using hc
  rw [cpsOfBytes_string] at hc'
  obtain ⟨ch, _, rfl⟩ := List.mem_map.mp hc'
  have h1 := ch.valid
  have h2 : ch.val.toNat = ch.toNat := rfl
  rcases h1 with h1 | h1
  · have h3 : ch.val.toNat < 55296 := h1
    omega
  · have h3 : ch.val.toNat < 1114112 := h1.2
    omega
theorem cpsOk_append {a b : Str} (ha : cpsOk a) (hb : cpsOk b) : cpsOk (a ++ b) := fun c hc => by
  have hc' : c ∈ (a.cps ++ b.cps).toList := hc
  rw [Array.toList_append] at hc'
  rcases List.mem_append.mp hc' with h | h
  · exact ha c h
  · exact hb c h
theorem reprChar_ok {q c : Nat} (hc : c < 0x110000) : ∀ d ∈ Builtin.Str.reprChar q c, d < 0x110000 := by
  have hex : ∀ w : Nat, ∀ d ∈ List.replicate (w - ((Nat.toDigits 16 c).map Char.toNat).length) 48 ++ (Nat.toDigits 16 c).map Char.toNat, d < 0x110000 := fun w d hd => by
    rcases List.mem_append.mp hd with h | h
    · have := (List.mem_replicate.mp h).2
      omega
    · obtain ⟨ch, _, rfl⟩ := List.mem_map.mp h
      have h2 : ch.val.toNat = ch.toNat := rfl
      rcases ch.valid with h1 | h1
      · have h3 : ch.val.toNat < 55296 := h1
        omega
      · have h3 : ch.val.toNat < 1114112 := h1.2
        omega
  intro d hd
  unfold Builtin.Str.reprChar at hd
  simp only at hd
  have two : ∀ a b : Nat, a < 0x110000 → b < 0x110000 → d ∈ [a, b] → d < 0x110000 := fun a b ha hb h => by
    simp only [List.mem_cons, List.not_mem_nil, or_false] at h
    rcases h with rfl | rfl <;> assumption
  have hx : ∀ a b : Nat, a < 0x110000 → b < 0x110000 → ∀ w, d ∈ [a, b] ++ (List.replicate (w - ((Nat.toDigits 16 c).map Char.toNat).length) 48 ++ (Nat.toDigits 16 c).map Char.toNat) → d < 0x110000 := fun a b ha hb w h => by
    rcases List.mem_append.mp h with h | h
    · exact two a b ha hb h
    · exact hex w d h
  split at hd
  · exact two _ _ (by omega) hc hd
  split at hd
  · exact two _ _ (by omega) (by omega) hd
  split at hd
  · exact two _ _ (by omega) (by omega) hd
  split at hd
  · exact two _ _ (by omega) (by omega) hd
  split at hd
  · have : d = c := by simpa using hd
    omega
  split at hd
  · exact hx _ _ (by omega) (by omega) 2 hd
  split at hd
  · exact hx _ _ (by omega) (by omega) 4 hd
  · exact hx _ _ (by omega) (by omega) 8 hd
theorem foldl_ok {q : Nat} : ∀ (l : List Nat) (acc : Array Nat), (∀ c ∈ l, c < 0x110000) → (∀ c ∈ acc.toList, c < 0x110000) → ∀ c ∈ (l.foldl (fun out c => out ++ (Builtin.Str.reprChar q c).toArray) acc).toList, c < 0x110000
  | [], acc, _, h => h
  | c :: l, acc, h1, h2 => by
    refine foldl_ok l _ (fun d hd => h1 d (List.mem_cons_of_mem _ hd)) (fun d hd => ?_)
    rw [Array.toList_append] at hd
    rcases List.mem_append.mp hd with h | h
    · exact h2 d h
    · exact reprChar_ok (h1 c List.mem_cons_self) d (by simpa using h)
theorem quote_ok (x : Str) : reprQuote x < 0x110000 := by
  unfold reprQuote
  split <;> omega
theorem cpsOk_repr {x : Str} (h : cpsOk x) : cpsOk (reprText x) := by
  unfold cpsOk reprText
  intro c hc
  rw [Array.toList_push, ← Array.foldl_toList] at hc
  rcases List.mem_append.mp hc with h' | h'
  · refine foldl_ok x.cps.toList #[reprQuote x] h (fun d hd => ?_) c h'
    have : d = reprQuote x := by simpa using hd
    rw [this]; exact quote_ok x
  · have : c = reprQuote x := by simpa using h'
    rw [this]; exact quote_ok x
theorem cpsOk_join {sep : Str} (hs : cpsOk sep) : ∀ ts : List Str, (∀ t ∈ ts, cpsOk t) → cpsOk (Str.join sep ts)
  | [], _ => fun c hc => by simp [Str.join, Str.empty] at hc
  | [t], h => h t (by simp)
  | t :: u :: r, h => by
    show cpsOk (t ++ sep ++ Str.join sep (u :: r))
    exact cpsOk_append (cpsOk_append (h t (by simp)) hs) (cpsOk_join hs (u :: r) fun v hv => h v (List.mem_cons_of_mem _ hv))
theorem cpsOk_from : ∀ (ts : List Str) (k : Nat) (acc : Str), cpsOk acc → (∀ t ∈ ts, cpsOk t) → cpsOk (textFrom k acc ts)
  | [], _, acc, h, _ => h
  | t :: ts, k, acc, h, h2 => by
    show cpsOk (textFrom (k + 1) (acc ++ (if k > 0 then ", " else "" : String) ++ t) ts)
    refine cpsOk_from ts _ _ (cpsOk_append (cpsOk_append h ?_) (h2 t (by simp))) fun v hv => h2 v (List.mem_cons_of_mem _ hv)
    split <;> exact cpsOk_of _
mutual
theorem shown_cps : ∀ d : PyData, d.canLay0 = true → cpsOk d.shown
  | .none, _ => cpsOk_of "None"
  | .bool b, _ => by
    unfold PyData.shown
    split
    · exact cpsOk_of "True"
    · exact cpsOk_of "False"
  | .int i, _ => cpsOk_of (toString i)
  | .str x, h => by
    have h' : PyData.strOk x = true := by simpa only [PyData.canLay0] using h
    exact cpsOk_repr ((strOk_iff x).mp h')
  | .list xs, h => by
    have h' : PyData.canLayAll0 xs = true := by simpa only [PyData.canLay0] using h
    have hs := shownAll_cps xs h'
    show cpsOk (listText (PyData.shownAll xs))
    unfold listText
    exact cpsOk_append (cpsOk_from _ 0 _ (cpsOk_of "[") hs) (cpsOk_of "]")
  | .tuple xs, h => by
    have h' : PyData.canLayAll0 xs = true := by simpa only [PyData.canLay0] using h
    have hs := shownAll_cps xs h'
    show cpsOk (tupleText (PyData.shownAll xs))
    unfold tupleText
    refine cpsOk_append (cpsOk_append (cpsOk_of "(") (cpsOk_join (cpsOk_of ", ") _ hs)) ?_
    split <;> exact cpsOk_of _
  | .dict _, h => by simp [PyData.canLay0] at h
theorem shownAll_cps : ∀ xs : List PyData, PyData.canLayAll0 xs = true → ∀ t ∈ PyData.shownAll xs, cpsOk t
  | [], _ => fun t ht => by simp [PyData.shownAll] at ht
  | x :: xs, h => by
    have h' : x.canLay0 = true ∧ PyData.canLayAll0 xs = true := by simpa [PyData.canLayAll0] using h
    intro t ht
    have ht' : t = x.shown ∨ t ∈ PyData.shownAll xs := by simpa [PyData.shownAll] using ht
    rcases ht' with rfl | ht'
    · exact shown_cps x h'.1
    · exact shownAll_cps xs h'.2 t ht'
end
theorem shown_ok {d : PyData} (h : d.canLay0 = true) : PyData.strOk d.shown = true := (strOk_iff _).mpr (shown_cps d h)
mutual
theorem leaves_of : ∀ d : PyData, d.canLay0 = true → d.showable = true → d.intsShort 1921 = true
  | .none, _, _ => rfl
  | .bool _, _, _ => rfl
  | .int i, _, h => by
    have h' : i.natAbs.log2 < 1920 := by simpa [PyData.showable] using h
    simp only [PyData.intsShort, decide_eq_true_eq]
    exact int_text_len_1921 h'
  | .str _, _, _ => rfl
  | .list xs, hc, h => by
    simp only [PyData.intsShort]
    exact leavesAll_of xs (by simpa only [PyData.canLay0] using hc) (by simpa only [PyData.showable] using h)
  | .tuple xs, hc, h => by
    simp only [PyData.intsShort]
    exact leavesAll_of xs (by simpa only [PyData.canLay0] using hc) (by simpa only [PyData.showable] using h)
  | .dict _, hc, _ => by simp [PyData.canLay0] at hc
theorem leavesAll_of : ∀ xs : List PyData, PyData.canLayAll0 xs = true → PyData.showableAll xs = true → PyData.intsShortAll 1921 xs = true
  | [], _, _ => rfl
  | x :: xs, hc, h => by
    have hc' : x.canLay0 = true ∧ PyData.canLayAll0 xs = true := by simpa [PyData.canLayAll0] using hc
    have h' : x.showable = true ∧ PyData.showableAll xs = true := by simpa [PyData.showableAll] using h
    simp only [PyData.intsShortAll, Bool.and_eq_true]
    exact ⟨leaves_of x hc'.1 h'.1, leavesAll_of xs hc'.2 h'.2⟩
end
theorem shown_short {d : PyData} (hc : d.canLay0 = true) (hs : d.showable = true) (hw : shortD d = true) : d.shown.length ≤ sizeLine := by
  have h1 := PyData.shown_le 1921 (by omega) d (PyData.leavesShort_of_canLay0 1921 d hc (leaves_of d hc hs))
  have h2 : d.weight ≤ 8000 := of_decide_eq_true hw
  rw [sizeLine_eq]
  omega

/-! ### == -/
mutual
theorem pdEq_eq : ∀ d e : PyData, pdEq d e = true → d = e
  | .none, e, h => by cases e <;> first | rfl | cases h
  | .bool a, e, h => by
    cases e <;> try (cases h; done)
    have h' : (a == _) = true := h
    rw [beq_iff_eq.mp h']
  | .int a, e, h => by
    cases e <;> try (cases h; done)
    have h' : (a == _) = true := h
    rw [beq_iff_eq.mp h']
  | .str a, e, h => by
    cases e <;> try (cases h; done)
    have h' : (a == _) = true := h
    rw [beq_iff_eq.mp h']
  | .list xs, e, h => by
    cases e <;> try (cases h; done)
    rw [pdEqs_eq xs _ h]
  | .tuple xs, e, h => by
    cases e <;> try (cases h; done)
    rw [pdEqs_eq xs _ h]
  | .dict _, e, h => by cases e <;> cases h
theorem pdEqs_eq : ∀ ds es : List PyData, pdEqs ds es = true → ds = es
  | [], es, h => by cases es <;> first | rfl | cases h
  | d :: ds, es, h => by
    cases es with
    | nil => cases h
    | cons e es =>
      have h' : (pdEq d e && pdEqs ds es) = true := h
      rw [Bool.and_eq_true] at h'
      rw [pdEq_eq d e h'.1, pdEqs_eq ds es h'.2]
end
section
variable {K : PySem.W.Frag} {m : List Addr} {H : Hp} {h : Hc}
theorem mapM_depth {f : C → Option PyData} {n : Nat} (ih : ∀ c d, f c = some d → d.depth ≤ n) : ∀ (cs : List C) (ds : List PyData), cs.mapM f = some ds → PyData.depthAll ds ≤ n
  | [], ds, e => by
    simp at e
    subst e
    simp [PyData.depthAll]
  | c :: cs, ds, e => by
    rw [List.mapM_cons] at e
    cases h1 : f c with
    | none => rw [h1] at e; simp at e
    | some d =>
      cases h2 : cs.mapM f with
      | none => rw [h1, h2] at e; simp at e
      | some ds' =>
        rw [h1, h2] at e
        simp at e
        subst e
        simp only [PyData.depthAll]
        exact Nat.max_le.mpr ⟨ih c d h1, mapM_depth ih cs ds' h2⟩
theorem toD_depth : ∀ (n : Nat) (c : C) (d : PyData), toD h n c = some d → d.depth ≤ n
  | 0, _, _, e => by cases e
  | n + 1, c, d, e => by
    have ih := fun c d => toD_depth n c d
    have two : ∀ (cs : List C) (g : List PyData → PyData), (∀ ds, (g ds).depth = PyData.depthAll ds + 1) → (cs.mapM (toD h n)).map g = some d → d.depth ≤ n + 1 := fun cs g hg e => by
      cases hm : cs.mapM (toD h n) with
      | none => rw [hm] at e; cases e
      | some ds =>
        rw [hm] at e
        cases e
        rw [hg]
        exact Nat.succ_le_succ (mapM_depth ih cs ds hm)
    cases c with
    | non => cases e; simp [PyData.depth]
    | bl b => cases e; simp [PyData.depth]
    | int i => cases e; simp [PyData.depth]
    | str x => cases e; simp [PyData.depth]
    | rep d => cases e; simp [PyData.depth]
    | tup cs => exact two cs .tuple (fun ds => by simp [PyData.depth]) e
    | frz cs => exact two cs .list (fun ds => by simp [PyData.depth]) e
    | ref k =>
      have e' : (match h[k]? with | some cs => (cs.mapM (toD h n)).map PyData.list | none => none) = some d := e
      cases hk : h[k]? with
      | none => rw [hk] at e'; cases e'
      | some cs =>
        rw [hk] at e'
        exact two cs .list (fun ds => by simp [PyData.depth]) e'
/-- what == gives, with the data -/
def EqIs (K : PySem.W.Frag) (H : Hp) (n : Nat) (v u : V) (b : Bool) : Prop := ∃ d e, Dp K H v d ∧ Dp K H u e ∧ d.canLay0 = true ∧ e.canLay0 = true ∧ d.depth ≤ n ∧ e.depth ≤ n ∧ PyData.eqv d e = b
theorem eqFar_ok (rl : Rl K m h H) {n : Nat} {x y : C} {v u : V} {b : Bool} (rx : RV K m H x v) (ry : RV K m H y u) (e : eqFar h n x y = some b) : EqIs K H n v u b := by
  unfold eqFar at e
  split at e
  · rename_i d d' e1 e2
    split at e
    · rename_i hs
      rw [Bool.and_eq_true] at hs
      cases e
      exact ⟨d, d', toD_dp rl n x v d rx e1, toD_dp rl n y u d' ry e2, SeqAt.canLay_of_shaped hs.1, SeqAt.canLay_of_shaped hs.2, toD_depth n x d e1, toD_depth n y d' e2, rfl⟩
    · cases e
  · cases e
theorem both_ok {n : Nat} {f : C → C → Option Bool} (ih : ∀ x y v u b, RV K m H x v → RV K m H y u → f x y = some b → EqIs K H n v u b) : ∀ (xs ys : List C) (vs us : List V) (b : Bool), RVs K m H xs vs → RVs K m H ys us → both f xs ys = some b →
    ∃ ds es, DpAll K H vs ds ∧ DpAll K H us es ∧ PyData.canLayAll0 ds = true ∧ PyData.canLayAll0 es = true ∧ PyData.depthAll ds ≤ n ∧ PyData.depthAll es ≤ n ∧ PyData.eqvAll ds es = b
  | [], ys, vs, us, b, q1, q2, e => by
    cases ys with
    | nil =>
      cases q1
      cases q2
      cases e
      exact ⟨[], [], .nil, .nil, rfl, rfl, Nat.zero_le _, Nat.zero_le _, rfl⟩
    | cons _ _ => cases e
  | x :: xs, ys, vs, us, b, q1, q2, e => by
    cases ys with
    | nil => cases e
    | cons y ys =>
      obtain ⟨v, r, rfl, a1, a2⟩ := q1
      obtain ⟨u, t, rfl, b1, b2⟩ := q2
      unfold both at e
      split at e
      · cases e
      · rename_i c hc
        split at e
        · cases e
        · rename_i c' hc'
          cases e
          obtain ⟨d, d', h1, h2, h3, h4, h5, h6, h7⟩ := ih x y v u c a1 b1 hc
          obtain ⟨ds, es, k1, k2, k3, k4, k5, k6, k7⟩ := both_ok ih xs ys r t c' a2 b2 hc'
          refine ⟨d :: ds, d' :: es, .cons h1 k1, .cons h2 k2, ?_, ?_, ?_, ?_, ?_⟩
          · simp only [PyData.canLayAll0, h3, k3, Bool.and_self]
          · simp only [PyData.canLayAll0, h4, k4, Bool.and_self]
          · simp only [PyData.depthAll]; exact Nat.max_le.mpr ⟨h5, k5⟩
          · simp only [PyData.depthAll]; exact Nat.max_le.mpr ⟨h6, k6⟩
          · simp only [PyData.eqvAll, h7, k7]
theorem ceq_all (rl : Rl K m h H) : ∀ (n : Nat) (x y : C) (v u : V) (b : Bool), RV K m H x v → RV K m H y u → ceq h n x y = some b → EqIs K H n v u b
  | 0, _, _, _, _, _, _, _, e => by cases e
  | n + 1, x, y, v, u, b, rx, ry, e => by
    have ih := fun x y v u b => ceq_all rl n x y v u b
    have far : eqFar h (n + 1) x y = some b → EqIs K H (n + 1) v u b := eqFar_ok rl rx ry
    unfold ceq at e
    split at e
    · rename_i d d'
      split at e
      · rename_i hd
        cases e
        cases pdEq_eq _ _ hd
        obtain ⟨rfl, hc⟩ := rx
        obtain ⟨rfl, _⟩ := ry
        refine ⟨.str d.shown, .str d.shown, .str _, .str _, ?_, ?_, ?_, ?_, ?_⟩
        · simp only [PyData.canLay0]; exact shown_ok hc
        · simp only [PyData.canLay0]; exact shown_ok hc
        · simp [PyData.depth]
        · simp [PyData.depth]
        · simp [PyData.eqv]
      · exact far e
    · rename_i i j
      cases e
      cases rx
      cases ry
      exact ⟨.int i, .int j, .int i, .int j, rfl, rfl, by simp [PyData.depth], by simp [PyData.depth], rfl⟩
    · rename_i xs ys
      split at e
      · obtain ⟨a, vs, rfl, e2, e3⟩ := rx
        obtain ⟨a', us, rfl, f2, f3⟩ := ry
        obtain ⟨ds, es, k1, k2, k3, k4, k5, k6, k7⟩ := both_ok ih xs ys vs us b e3 f3 e
        exact ⟨.tuple ds, .tuple es, .tup e2 k1, .tup f2 k2, by simpa only [PyData.canLay0] using k3, by simpa only [PyData.canLay0] using k4,
          by simp only [PyData.depth]; omega, by simp only [PyData.depth]; omega, by simpa only [PyData.eqv] using k7⟩
      · exact far e
    · rename_i a a'
      split at e
      · rename_i xs ys h1 h2
        split at e
        · obtain ⟨p, q1, rfl⟩ := rx
          obtain ⟨p', q2, rfl⟩ := ry
          obtain ⟨vs, s1, s2⟩ := rl.at_ _ _ _ q1 h1
          obtain ⟨us, t1, t2⟩ := rl.at_ _ _ _ q2 h2
          obtain ⟨ds, es, k1, k2, k3, k4, k5, k6, k7⟩ := both_ok ih xs ys vs us b s2 t2 e
          exact ⟨.list ds, .list es, .lst (SqL.of s1) k1, .lst (SqL.of t1) k2, by simpa only [PyData.canLay0] using k3, by simpa only [PyData.canLay0] using k4,
            by simp only [PyData.depth]; omega, by simp only [PyData.depth]; omega, by simpa only [PyData.eqv] using k7⟩
        · exact far e
      · cases e
    · exact far e
theorem ceq_ok (rl : Rl K m h H) (n : Nat) (hn : n ≤ 64) (x y : C) (v u : V) (b : Bool) (rx : RV K m H x v) (ry : RV K m H y u) (e : ceq h n x y = some b) :
    ∃ d d', Dp K H v d ∧ Dp K H u d' ∧ SeqAt.shaped d = true ∧ SeqAt.shaped d' = true ∧ PyData.eqv d d' = b := by
  obtain ⟨d, d', h1, h2, h3, h4, h5, h6, h7⟩ := ceq_all rl n x y v u b rx ry e
  refine ⟨d, d', h1, h2, ?_, ?_, h7⟩
  · unfold SeqAt.shaped
    rw [h3, decide_eq_true (Nat.le_trans h5 hn)]
    rfl
  · unfold SeqAt.shaped
    rw [h4, decide_eq_true (Nat.le_trans h6 hn)]
    rfl
end
end Sh
set_option Elab.async false
set_option linter.all false
set_option autoImplicit false
set_option maxRecDepth 100000
set_option maxHeartbeats 4000000
/-! Sh, part E: comparisons, truth, items, slices, built-ins. -/
namespace Sh
open PySem PySem.Spec PyProof.Rows L2
section
variable {X : Cx} {et : ETab} {W : Value → Option Addr → Hp → Prop} {m : List Addr} {H : Hp} {h : Hc} {x y : C} {v u : V} {Q : VK}
theorem non_iff {K : PySem.W.Frag} {c : C} {v : V} (r : RV K m H c v) : decide (v = .non) = (match c with | .non => true | _ => false) := by
  cases c with
  | non => cases r; rfl
  | bl _ => cases r; rfl
  | int _ => cases r; rfl
  | str _ => cases r; rfl
  | rep _ => obtain ⟨rfl, _⟩ := r; rfl
  | tup _ => obtain ⟨a, vs, rfl, _⟩ := r; rfl
  | ref _ => obtain ⟨a, _, rfl⟩ := r; rfl
  | frz _ => obtain ⟨a, vs, rfl, _⟩ := r; rfl
theorem cmp_int {o : Cm} {op : CmpOp} {g : Int → Int → Bool} (ho : OpR X (compareOp op) (rI0 fun i j => .bl (g i j)))
    (hc : ∀ x y h, cmpop o x y h = match x, y with | .int i, .int j => .ok (.bl (g i j)) h | _, _ => .bad) :
    ∃ r : R2, OpR X (compareOp op) r ∧ ∀ (m : List Addr) (H : Hp) (h : Hc) (x y : C) (v u : V) (Q : VK), Rl X.K m h H → RV X.K m H x v → RV X.K m H y u → Post et X.K W m H (relV X.K) Q (cmpop o x y h) → r v u H Q := by
  refine ⟨_, ho, fun m H h x y v u Q rl rx ry p => ?_⟩
  rw [hc] at p
  cases x <;> cases y <;> try (exact False.elim p)
  rename_i i j
  exact ⟨i, j, rx, ry, p m H _ Ext.refl rl rfl⟩
theorem cmpop_ok (o : Cm) (hu : X.A.units + 64 < cLine) : ∃ r : R2, OpR X (compareOp (cmr o)) r ∧ ∀ (m : List Addr) (H : Hp) (h : Hc) (x y : C) (v u : V) (Q : VK), Rl X.K m h H → RV X.K m H x v → RV X.K m H y u → Post et X.K W m H (relV X.K) Q (cmpop o x y h) → r v u H Q := by
  cases o with
  | eq =>
    refine ⟨_, op_eqD hu, fun m H h x y v u Q rl rx ry p => ?_⟩
    unfold cmpop at p
    simp only at p
    split at p
    · rename_i b e1
      obtain ⟨d, e, h1, h2, h3, h4, h5⟩ := ceq_ok rl 40 (by omega) x y v u b rx ry e1
      exact ⟨d, e, h1, h2, h3, h4, by rw [h5]; exact p m H _ Ext.refl rl rfl⟩
    · exact False.elim p
  | ne =>
    refine ⟨_, op_neD hu, fun m H h x y v u Q rl rx ry p => ?_⟩
    unfold cmpop at p
    simp only at p
    split at p
    · rename_i b e1
      obtain ⟨d, e, h1, h2, h3, h4, h5⟩ := ceq_ok rl 40 (by omega) x y v u b rx ry e1
      exact ⟨d, e, h1, h2, h3, h4, by rw [h5]; exact p m H _ Ext.refl rl rfl⟩
    · exact False.elim p
  | lt => exact cmp_int op_lt (fun x y h => by cases x <;> cases y <;> rfl)
  | le => exact cmp_int op_le (fun x y h => by cases x <;> cases y <;> rfl)
  | gt => exact cmp_int op_gt (fun x y h => by cases x <;> cases y <;> rfl)
  | ge => exact cmp_int op_ge (fun x y h => by cases x <;> cases y <;> rfl)
  | is_ =>
    refine ⟨_, op_isN.or op_isBl, fun m H h x y v u Q rl rx ry p => ?_⟩
    have e : cmpop .is_ x y h = match isS x y with | some b => .ok (.bl b) h | none => .bad := rfl
    rw [e] at p
    have hn := non_iff rx
    cases y <;> try (cases x <;> exact False.elim p)
    · cases ry
      refine .inl ⟨rfl, ?_⟩
      rw [hn]
      cases x <;> exact p m H _ Ext.refl rl rfl
    · cases x <;> try (exact False.elim p)
      exact .inr ⟨_, _, rx, ry, p m H _ Ext.refl rl rfl⟩
  | isn =>
    refine ⟨_, op_notN.or op_notBl, fun m H h x y v u Q rl rx ry p => ?_⟩
    have e : cmpop .isn x y h = match isS x y with | some b => .ok (.bl (!b)) h | none => .bad := rfl
    rw [e] at p
    have hn := non_iff rx
    cases y <;> try (cases x <;> exact False.elim p)
    · cases ry
      refine .inl ⟨rfl, ?_⟩
      rw [hn]
      cases x <;> exact p m H _ Ext.refl rl rfl
    · cases x <;> try (exact False.elim p)
      exact .inr ⟨_, _, rx, ry, p m H _ Ext.refl rl rfl⟩
  | in_ => exact ⟨fun _ _ _ _ => False, fun _ _ _ _ _ _ _ _ _ _ _ _ q => q.elim, fun m H h x y v u Q rl rx ry p => p⟩
  | nin => exact ⟨fun _ _ _ _ => False, fun _ _ _ _ _ _ _ _ _ _ _ _ q => q.elim, fun m H h x y v u Q rl rx ry p => p⟩

/-! ### truth -/
theorem isEmpty_rvs {K : PySem.W.Frag} {cs : List C} {vs : List V} (q : RVs K m H cs vs) : vs.isEmpty = cs.isEmpty := by
  cases cs with
  | nil => cases q; rfl
  | cons c cs => obtain ⟨v, r, rfl, _⟩ := q; rfl
theorem truth_ok (rl : Rl X.K m h H) (rx : RV X.K m H x v) {Q : Bool → Hp → Prop} (p : Post et X.K W m H relB Q (truth x h)) : ∃ k, TruV X.K v H k ∧ Q k H := by
  have sq : ∀ xs, seqOf h x = some xs → Post et X.K W m H relB Q (.ok (!xs.isEmpty) h) → ∃ k, TruV X.K v H k ∧ Q k H := fun xs e p => by
    obtain ⟨a, vs, rfl, hs, q⟩ := seq_read rl rx e
    refine ⟨!xs.isEmpty, ?_, p m H _ Ext.refl rl rfl⟩
    rw [← isEmpty_rvs q]
    rcases hs with hs | hs
    · exact .inl ⟨vs, hs, rfl⟩
    · exact .inr (.inl ⟨vs, hs, rfl⟩)
  cases x with
  | non => cases rx; exact ⟨false, rfl, p m H _ Ext.refl rl rfl⟩
  | bl b => cases rx; exact ⟨b, rfl, p m H _ Ext.refl rl rfl⟩
  | int i => cases rx; exact ⟨_, rfl, p m H _ Ext.refl rl rfl⟩
  | str z =>
    cases rx
    unfold truth at p
    simp only at p
    split at p
    · rename_i hz
      exact ⟨_, ⟨line_le hz, rfl⟩, p m H _ Ext.refl rl rfl⟩
    · exact False.elim p
  | rep d => exact False.elim p
  | tup cs => exact sq cs rfl p
  | frz cs => exact sq cs rfl p
  | ref n =>
    have e : truth (.ref n) h = match h[n]? with | some xs => .ok (!xs.isEmpty) h | none => .bad := rfl
    rw [e] at p
    cases hn : h[n]? with
    | none => rw [hn] at p; exact False.elim p
    | some xs => rw [hn] at p; exact sq xs hn p

/-! ### items -/
theorem ixC_eq (n : Nat) (i : Int) : ixC n i = ixN n i := rfl
theorem item_ok : ∃ r : R2, IxR X r ∧ ∀ (m : List Addr) (H : Hp) (h : Hc) (x y : C) (v u : V) (Q : VK), Rl X.K m h H → RV X.K m H x v → RV X.K m H y u → Post et X.K W m H (relV X.K) Q (item x y h) → r v u H Q := by
  refine ⟨_, ix_list.or ix_tup, fun m H h x y v u Q rl rx ry p => ?_⟩
  cases y <;> try (exact False.elim p)
  rename_i i
  unfold item at p
  simp only at p
  split at p
  · rename_i xs e1
    split at p
    · rename_i c e2
      obtain ⟨a, vs, rfl, hs, q⟩ := seq_read rl rx e1
      have hl := q.length
      cases hj : ixC xs.length i with
      | none => rw [hj] at e2; cases e2
      | some j =>
        rw [hj] at e2
        have e3 : xs[j]? = some c := e2
        obtain ⟨w, w1, w2⟩ := q.get e3
        have e4 : atI vs i = some w := by
          unfold atI
          rw [← hl, ← ixC_eq, hj]
          exact w1
        rcases hs with hs | hs
        · exact .inl ⟨a, vs, i, w, rfl, ry, hs, e4, p m H _ Ext.refl rl w2⟩
        · exact .inr ⟨a, vs, i, w, rfl, ry, hs, e4, p m H _ Ext.refl rl w2⟩
    · exact False.elim p
  · exact False.elim p
theorem setitem_ok : ∀ (m : List Addr) (H : Hp) (h : Hc) (x y z : C) (v u t : V) (Q : Hp → Prop), Rl X.K m h H → RV X.K m H x v → RV X.K m H y u → RV X.K m H z t → Post et X.K W m H (fun _ _ _ (_ : Unit) => True) (fun _ H' => Q H') (setitem x y z h) → rSetL v u t H Q := by
  intro m H h x y z v u t Q rl rx ry rz p
  cases x <;> cases y <;> try (exact False.elim p)
  rename_i n i
  unfold setitem at p
  simp only at p
  split at p
  · rename_i xs e1
    split at p
    · rename_i j e2
      obtain ⟨a, q1, rfl⟩ := rx
      obtain ⟨vs, q2, q3⟩ := rl.at_ _ _ _ q1 e1
      refine ⟨a, vs, i, j, rfl, ry, q2, by rw [← q3.length]; exact e2, ?_⟩
      exact p m _ () (Ext.write (List.mem_of_getElem? q1) q2) (rl.write q1 q2 (q3.set j rz)) trivial
    · exact False.elim p
  · exact False.elim p
theorem cut_rvs {K : PySem.W.Frag} {cs : List C} {vs : List V} (q : RVs K m H cs vs) (lo hi : Option Int) : RVs K m H (cutC cs lo hi) (cutV vs lo hi) := by
  have hl := q.length
  unfold cutC cutV
  rw [← hl]
  exact RVs.take _ (RVs.drop _ q)
theorem slice_ok : ∃ r, SlR X r ∧ ∀ (m : List Addr) (H : Hp) (h : Hc) (x : C) (lo hi : Option Int) (v : V) (Q : VK), Rl X.K m h H → RV X.K m H x v → Post et X.K W m H (relV X.K) Q (slice x lo hi h) → r v lo hi H Q := by
  refine ⟨_, sl_list.or sl_tupA, fun m H h x lo hi v Q rl rx p => ?_⟩
  cases x <;> try (exact False.elim p)
  · rename_i cs
    obtain ⟨a, vs, rfl, e2, e3⟩ := rx
    unfold slice at p
    simp only at p
    have hl := e3.length
    refine .inr ⟨a, vs, rfl, e2, fun z => ?_, fun _ p' hp => ?_⟩
    · have hc : cutC cs lo hi = cs := by
        have z1 : sIxC cs.length 0 lo = 0 := by rw [hl]; exact z.1
        have z2 : sIxC cs.length cs.length hi = cs.length := by rw [hl]; exact z.2
        unfold cutC
        rw [z1, z2, List.drop_zero, Nat.sub_zero, List.take_length]
      rw [hc] at p
      exact p m _ _ Ext.refl rl ⟨a, vs, rfl, e2, e3⟩
    · exact p m _ _ (Ext.new hp) (rl.new hp) (tup_laid (cut_rvs e3 lo hi) hp)
  · rename_i n
    unfold slice at p
    simp only at p
    split at p
    · rename_i xs e1
      obtain ⟨a, q1, rfl⟩ := rx
      obtain ⟨vs, q2, q3⟩ := rl.at_ _ _ _ q1 e1
      exact .inl ⟨a, vs, rfl, SqL.of q2, fun p' hp => p _ _ _ (Ext.newL hp) (rl.newL hp (cut_rvs q3 lo hi)) (lst_laid rl)⟩
    · exact False.elim p
  · rename_i cs
    obtain ⟨a, vs, rfl, e2, e3⟩ := rx
    exact .inl ⟨a, vs, rfl, e2.sq, fun p' hp => p _ _ _ (Ext.newL hp) (rl.newL hp (cut_rvs e3 lo hi)) (lst_laid rl)⟩

/-! ### types -/
theorem kit_table (o : Option Ty) (T : Ty) : kitB (tyName o) T.name = some (isiT o T) := by
  cases o with
  | none => cases T <;> decide +kernel
  | some t => cases t <;> cases T <;> decide +kernel
theorem tyx_of {K : PySem.W.Frag} (rl : Rl K m h H) (rx : RV K m H x v) : TyX K H v (.type (tyName (tyC x))) := by
  cases x with
  | non => cases rx; exact .base .non
  | bl b => cases rx; exact .base (.bl b)
  | int i => cases rx; exact .base (.int i)
  | str z => cases rx; exact .base (.str z)
  | rep d => obtain ⟨rfl, _⟩ := rx; exact .base (.str _)
  | tup cs =>
    obtain ⟨a, vs, rfl, e2, e3⟩ := rx
    rcases e2 with (e2 | ⟨o, e2⟩) | ⟨o, its, n, e2, e4, _⟩
    · exact .base (.tup e2)
    · exact .fTuple e2
    · exact .kTuple e2 e4
  | ref n =>
    obtain ⟨a, e1, rfl⟩ := rx
    obtain ⟨cs, vs, _, q, _⟩ := rl.get e1
    exact .base (.lst q)
  | frz cs =>
    obtain ⟨a, vs, rfl, e2, e3⟩ := rx
    rcases e2 with ⟨o, e2⟩ | ⟨o, its, n, e2, e4, _⟩
    · exact .base (.frz e2)
    · exact .kList e2 e4
end
end Sh
set_option Elab.async false
set_option linter.all false
set_option autoImplicit false
set_option maxRecDepth 100000
set_option maxHeartbeats 4000000
/-! Sh, part F: built-ins; expressions, rule by rule. -/
namespace Sh
open PySem PySem.Spec PyProof.Rows L2

def biName : Bi → Str
  | .len => "len" | .abs => "abs" | .max2 => "max" | .min2 => "min" | .sum => "sum" | .gcd => "gcd" | .divmod => "divmod" | .repr => "repr" | .tuple => "tuple" | .list => "list" | .maxL => "max" | .minL => "min" | .int => "int" | .bool => "bool" | .all => "all" | .any => "any"
def biVal : Bi → Value
  | .len => .builtin "len" | .abs => .builtin "abs" | .max2 => .builtin "max" | .min2 => .builtin "min" | .sum => .builtin "sum" | .gcd => .builtin "math.gcd" | .divmod => .builtin "divmod" | .repr => .builtin "repr"
  | .tuple => .type "tuple" | .list => .type "list" | .maxL => .builtin "max" | .minL => .builtin "min" | .int => .type "int" | .bool => .type "bool" | .all => .builtin "all" | .any => .builtin "any"

theorem maxI_is : ∀ (r : List Int) (x m : Int), m ∈ x :: r → (∀ y, y ∈ x :: r → y ≤ m) → maxI x r = m
  | [], x, m, h, _ => by
    have : m = x := by simpa using h
    rw [this]; rfl
  | y :: r, x, m, h, hl => by
    have hx := hl x (by simp)
    have hy := hl y (by simp)
    refine maxI_is r (if x < y then y else x) m ?_ fun z hz => ?_
    · rcases List.mem_cons.mp h with e | h
      · subst e
        rw [if_neg (by omega)]
        exact List.mem_cons_self
      · rcases List.mem_cons.mp h with e | h
        · subst e
          split
          · exact List.mem_cons_self
          · have : m = x := by omega
            rw [this]
            exact List.mem_cons_self
        · exact List.mem_cons_of_mem _ h
    · rcases List.mem_cons.mp hz with e | hz
      · rw [e]
        split
        · exact hy
        · exact hx
      · exact hl z (by simp [hz])
theorem minI_is : ∀ (r : List Int) (x m : Int), m ∈ x :: r → (∀ y, y ∈ x :: r → m ≤ y) → minI x r = m
  | [], x, m, h, _ => by
    have : m = x := by simpa using h
    rw [this]; rfl
  | y :: r, x, m, h, hl => by
    have hx := hl x (by simp)
    have hy := hl y (by simp)
    refine minI_is r (if y < x then y else x) m ?_ fun z hz => ?_
    · rcases List.mem_cons.mp h with e | h
      · subst e
        rw [if_neg (by omega)]
        exact List.mem_cons_self
      · rcases List.mem_cons.mp h with e | h
        · subst e
          split
          · exact List.mem_cons_self
          · have : m = x := by omega
            rw [this]
            exact List.mem_cons_self
        · exact List.mem_cons_of_mem _ h
    · rcases List.mem_cons.mp hz with e | hz
      · rw [e]
        split
        · exact hy
        · exact hx
      · exact hl z (by simp [hz])
section
variable {X : Cx} {et : ETab} {W : Value → Option Addr → Hp → Prop}
theorem call_reprD (hg : X.A.guards = some []) (hu : X.A.units + 70 < cLine) : CallR X (.builtin "repr") (fun xs H Q => ∃ v d, xs = [v] ∧ Dp X.K H v d ∧ d.showable = true ∧ SeqAt.shaped d = true ∧ d.shown.length ≤ sizeLine ∧ Q (.str d.shown) H) := by
  intro pins s σ H xs us Q I r h
  obtain ⟨v, d, rfl, hd, hs, hc, hz, q⟩ := h
  obtain ⟨u, rfl, ru⟩ := vals1 r
  have hcl := SeqAt.canLay_of_shaped hc
  have hdp := SeqAt.depth_of_shaped hc
  have ref : ∀ a, v = .ref a → wpAny (model X.prog X.w) X.A (call (.builtin "repr") [u]) (EP X pins σ Q) X.xe s := fun a e => by
    subst e
    cases ru
    obtain ⟨as, rd⟩ := Dp.reads I d _ _ hd rfl
    refine repr_of_reads' rd hs (fun hx => ?_) hg (by omega) (fun _ _ e => e) (fun h' u tk k => ?_) hz
    · rw [PyData.hasDict_of_canLay d hcl] at hx
      cases hx
    · exact ⟨.str d.shown, H, I.kept (h' := h') (t' := tk) k, ⟨u, rfl⟩, q⟩
  cases hd with
  | non =>
    cases ru
    exact PySem.P.repr_of_none ⟨.str _, H, I.tok _, ⟨_, rfl⟩, q⟩
  | bl b =>
    cases ru
    exact PySem.P.repr_of_bool ⟨.str _, H, I.tok _, ⟨_, rfl⟩, q⟩
  | int i =>
    obtain ⟨t, rfl⟩ := ru
    exact PySem.P.repr_of_int (by simpa [PyData.showable] using hs) ⟨.str _, H, I.tok _, ⟨_, rfl⟩, q⟩
  | str x =>
    obtain ⟨t, rfl⟩ := ru
    exact PySem.P.repr_of_str ⟨.str _, H, I.tok _, ⟨_, rfl⟩, q⟩ hz
  | lst _ _ => exact ref _ rfl
  | tup _ _ => exact ref _ rfl
theorem ints_of {K : PySem.W.Frag} {m : List Addr} {H : Hp} : ∀ {cs : List C} {ns : List Int} {vs : List V}, intsC cs = some ns → RVs K m H cs vs → vs = ns.map V.int
  | [], ns, vs, e, q => by
    cases q
    have e' : some [] = some ns := e
    cases e'
    rfl
  | c :: cs, ns, vs, e, q => by
    obtain ⟨v, r, rfl, q1, q2⟩ := q
    cases c with
    | int i =>
      have e' : (intsC cs).map (i :: ·) = some ns := e
      cases hh : intsC cs with
      | none => rw [hh] at e'; cases e'
      | some ms =>
        rw [hh] at e'
        cases e'
        rw [ints_of hh q2]
        have q1' : v = .int i := q1
        rw [q1']
        rfl
    | non => cases e
    | bl _ => cases e
    | str _ => cases e
    | tup _ => cases e
    | ref _ => cases e
    | frz _ => cases e
    | rep _ => cases e
theorem rvs1 {K : PySem.W.Frag} {m : List Addr} {H : Hp} {c : C} {vs : List V} (q : RVs K m H [c] vs) : ∃ v, vs = [v] ∧ RV K m H c v := by
  obtain ⟨v, r, rfl, q1, q2⟩ := q
  cases q2
  exact ⟨v, rfl, q1⟩
theorem rvs2 {K : PySem.W.Frag} {m : List Addr} {H : Hp} {c d : C} {vs : List V} (q : RVs K m H [c, d] vs) : ∃ v u, vs = [v, u] ∧ RV K m H c v ∧ RV K m H d u := by
  obtain ⟨v, r, rfl, q1, q2⟩ := q
  obtain ⟨u, rfl, q3⟩ := rvs1 q2
  exact ⟨v, u, rfl, q1, q3⟩
theorem bi_ok (b : Bi) (hc : X.calm = true ∨ b = .repr) (hg : X.A.guards = some []) (hu : X.A.units + 70 < cLine) : ∃ r, CallR X (biVal b) r ∧ ∀ (m : List Addr) (H : Hp) (h : Hc) (xs : List C) (vs : List V) (Q : VK), Rl X.K m h H → RVs X.K m H xs vs → Post et X.K W m H (relV X.K) Q (bi b xs h) → r vs H Q := by
  have no : ∀ f : Value, CallR X f (fun _ _ _ => False) := fun _ _ _ _ _ _ _ _ _ _ q => q.elim
  cases b with
  | len =>
    refine ⟨_, call_len, fun m H h xs vs Q rl q p => ?_⟩
    match xs, q, p with
    | [], _, p => exact False.elim p
    | c :: d :: r, _, p => exact False.elim (by cases c <;> exact p)
    | [c], q, p =>
      obtain ⟨v, rfl, rv⟩ := rvs1 q
      have sq : ∀ ys, seqOf h c = some ys → Post et X.K W m H (relV X.K) Q (.ok (.int ys.length) h) → ∃ x n, [v] = [x] ∧ LenV X.K x H n ∧ Q (.int n) H := fun ys e p => by
        obtain ⟨a, ws, rfl, hs, q⟩ := seq_read rl rv e
        refine ⟨_, ys.length, rfl, ?_, p m H _ Ext.refl rl rfl⟩
        rcases hs with hs | hs
        · exact .inl ⟨ws, hs, q.length⟩
        · exact .inr ⟨ws, hs, q.length⟩
      have go : Post et X.K W m H (relV X.K) Q (match seqOf h c with | some ys => .ok (.int ys.length) h | none => .bad) → ∃ x n, [v] = [x] ∧ LenV X.K x H n ∧ Q (.int n) H := fun p => by
        cases e : seqOf h c with
        | none => rw [e] at p; exact False.elim p
        | some ys => rw [e] at p; exact sq ys e p
      cases c with
      | str z =>
        cases rv
        unfold bi at p
        simp only at p
        split at p
        · rename_i hz
          exact ⟨_, z.length, rfl, ⟨line_le hz, rfl⟩, p m H _ Ext.refl rl rfl⟩
        · exact False.elim p
      | non => exact go p
      | bl _ => exact go p
      | int _ => exact go p
      | tup _ => exact go p
      | ref _ => exact go p
      | frz _ => exact go p
      | rep _ => exact go p
  | abs =>
    refine ⟨_, call_abs, fun m H h xs vs Q rl q p => ?_⟩
    match xs, q, p with
    | [.int i], q, p =>
      obtain ⟨v, rfl, rv⟩ := rvs1 q
      cases rv
      exact ⟨i, rfl, p m H _ Ext.refl rl rfl⟩
    | [], _, p => exact False.elim p
    | [.non], _, p => exact False.elim p
    | [.bl _], _, p => exact False.elim p
    | [.str _], _, p => exact False.elim p
    | [.tup _], _, p => exact False.elim p
    | [.ref _], _, p => exact False.elim p
    | [.frz _], _, p => exact False.elim p
    | [.rep _], _, p => exact False.elim p
    | c :: _ :: _, _, p => exact False.elim (by cases c <;> exact p)
  | max2 =>
    refine ⟨_, call_max2 (hc.resolve_right (by intro z; cases z)), fun m H h xs vs Q rl q p => ?_⟩
    unfold bi at p
    simp only at p
    split at p
    · rename_i i j
      obtain ⟨v, u, rfl, r1, r2⟩ := rvs2 q
      cases r1
      cases r2
      exact ⟨i, j, rfl, p m H _ Ext.refl rl rfl⟩
    · exact False.elim p
  | min2 =>
    refine ⟨_, call_min2 (hc.resolve_right (by intro z; cases z)), fun m H h xs vs Q rl q p => ?_⟩
    unfold bi at p
    simp only at p
    split at p
    · rename_i i j
      obtain ⟨v, u, rfl, r1, r2⟩ := rvs2 q
      cases r1
      cases r2
      exact ⟨i, j, rfl, p m H _ Ext.refl rl rfl⟩
    · exact False.elim p
  | sum =>
    refine ⟨_, cr_sum (hc.resolve_right (by intro z; cases z)), fun m H h xs vs Q rl q p => ?_⟩
    unfold bi at p
    simp only at p
    split at p
    · rename_i n
      split at p
      · rename_i ns e1
        obtain ⟨v, rfl, r1⟩ := rvs1 q
        obtain ⟨a, q1, rfl⟩ := r1
        cases hn : h[n]? with
        | none => rw [hn] at e1; cases e1
        | some cs =>
          rw [hn] at e1
          obtain ⟨ws, s1, s2⟩ := rl.at_ _ _ _ q1 hn
          have e2 := ints_of (show intsC cs = some ns from e1) s2
          exact ⟨a, ns, rfl, by rw [← e2]; exact SqL.of s1, p m H _ Ext.refl rl rfl⟩
      · exact False.elim p
    · exact False.elim p
  | gcd =>
    refine ⟨_, cr_gcd, fun m H h xs vs Q rl q p => ?_⟩
    unfold bi at p
    simp only at p
    split at p
    · rename_i i j
      obtain ⟨v, u, rfl, r1, r2⟩ := rvs2 q
      cases r1
      cases r2
      exact ⟨i, j, rfl, p m H _ Ext.refl rl rfl⟩
    · exact False.elim p
  | divmod =>
    refine ⟨_, call_divmod, fun m H h xs vs Q rl q p => ?_⟩
    unfold bi at p
    simp only at p
    split at p
    · rename_i i j
      split at p
      · rename_i hz
        obtain ⟨v, u, rfl, r1, r2⟩ := rvs2 q
        cases r1
        cases r2
        refine ⟨i, j, rfl, ⟨hz.1, by omega⟩, fun p' hp => ?_⟩
        exact p m _ _ (Ext.new hp) (rl.new hp) (tup_laid (cs := [.int (i / j), .int (i % j)]) ⟨_, _, rfl, rfl, _, _, rfl, rfl, rfl⟩ hp)
      · exact False.elim p
    · exact False.elim p
  | repr =>
    refine ⟨_, call_reprD hg hu, fun m H h xs vs Q rl q p => ?_⟩
    unfold bi at p
    simp only at p
    split at p
    · rename_i c
      split at p
      · rename_i d e1
        split at p
        · rename_i hs
          rw [Bool.and_eq_true, Bool.and_eq_true] at hs
          obtain ⟨v, rfl, r1⟩ := rvs1 q
          have hcl := SeqAt.canLay_of_shaped hs.1.2
          exact ⟨v, d, rfl, toD_dp rl 60 c v d r1 e1, hs.1.1, hs.1.2, shown_short hcl hs.1.1 hs.2, p m H _ Ext.refl rl ⟨rfl, hcl⟩⟩
        · exact False.elim p
      · exact False.elim p
    · exact False.elim p
  | tuple =>
    refine ⟨_, call_tuple_of, fun m H h xs vs Q rl q p => ?_⟩
    unfold bi at p
    simp only at p
    split at p
    · rename_i cs
      obtain ⟨v, rfl, r1⟩ := rvs1 q
      have r1' := r1
      obtain ⟨a, ws, rfl, e2, e3⟩ := r1
      exact ⟨a, ws, rfl, .inr ⟨e2, p m H _ Ext.refl rl r1'⟩⟩
    · rename_i n
      split at p
      · rename_i cs e1
        obtain ⟨v, rfl, r1⟩ := rvs1 q
        obtain ⟨a, q1, rfl⟩ := r1
        obtain ⟨ws, s1, s2⟩ := rl.at_ _ _ _ q1 e1
        exact ⟨a, ws, rfl, .inl ⟨SqL.of s1, fun l hl => p m _ _ (Ext.new hl) (rl.new hl) (tup_laid s2 hl)⟩⟩
      · exact False.elim p
    · exact False.elim p
  | list =>
    refine ⟨_, call_list_of, fun m H h xs vs Q rl q p => ?_⟩
    unfold bi at p
    simp only at p
    split at p
    · rename_i c
      split at p
      · rename_i cs e1
        obtain ⟨v, rfl, r1⟩ := rvs1 q
        obtain ⟨a, ws, rfl, hs, s2⟩ := seq_read rl r1 e1
        exact ⟨a, ws, rfl, hs, fun l hl => p _ _ _ (Ext.newL hl) (rl.newL hl s2) (lst_laid rl)⟩
      · exact False.elim p
    · exact False.elim p
  | int =>
    refine ⟨_, call_int1, fun m H h xs vs Q rl q p => ?_⟩
    unfold bi at p
    simp only at p
    split at p
    · rename_i i
      obtain ⟨v, rfl, r1⟩ := rvs1 q
      cases r1
      exact .inl ⟨i, rfl, p m H _ Ext.refl rl rfl⟩
    · exact False.elim p
  | maxL =>
    refine ⟨_, cr_max (hc.resolve_right (by intro z; cases z)), fun m H h xs vs Q rl q p => ?_⟩
    unfold bi at p
    simp only at p
    split at p
    · rename_i n
      split at p
      · rename_i x r e1
        obtain ⟨v, rfl, r1⟩ := rvs1 q
        obtain ⟨a, q1, rfl⟩ := r1
        cases hn : h[n]? with
        | none => rw [hn] at e1; cases e1
        | some cs =>
          rw [hn] at e1
          obtain ⟨ws, s1, s2⟩ := rl.at_ _ _ _ q1 hn
          have e2 := ints_of (show intsC cs = some (x :: r) from e1) s2
          refine ⟨a, x :: r, rfl, by rw [← e2]; exact SqL.of s1, Nat.succ_pos _, fun m' h1 h2 => ?_⟩
          rw [← maxI_is r x m' h1 h2]
          exact p m H _ Ext.refl rl rfl
      · exact False.elim p
    · exact False.elim p
  | minL =>
    refine ⟨_, cr_min (hc.resolve_right (by intro z; cases z)), fun m H h xs vs Q rl q p => ?_⟩
    unfold bi at p
    simp only at p
    split at p
    · rename_i n
      split at p
      · rename_i x r e1
        obtain ⟨v, rfl, r1⟩ := rvs1 q
        obtain ⟨a, q1, rfl⟩ := r1
        cases hn : h[n]? with
        | none => rw [hn] at e1; cases e1
        | some cs =>
          rw [hn] at e1
          obtain ⟨ws, s1, s2⟩ := rl.at_ _ _ _ q1 hn
          have e2 := ints_of (show intsC cs = some (x :: r) from e1) s2
          refine ⟨a, x :: r, rfl, by rw [← e2]; exact SqL.of s1, Nat.succ_pos _, fun m' h1 h2 => ?_⟩
          rw [← minI_is r x m' h1 h2]
          exact p m H _ Ext.refl rl rfl
      · exact False.elim p
    · exact False.elim p
  | bool => exact ⟨_, no _, fun m H h xs vs Q rl q p => p⟩
  | all => exact ⟨_, no _, fun m H h xs vs Q rl q p => p⟩
  | any => exact ⟨_, no _, fun m H h xs vs Q rl q p => p⟩
end

/-! ### expressions -/
section
variable {X : Cx} {et : ETab} {W : WX} {a b c e : Expr} {es : List Expr} {pos : Pos} {fa fb fc : Sl → Hc → R C} {ft : Sl → Hc → R Bool} {fs : Sl → Hc → R (List C)}
theorem sE_const {k : C} {v : V} (h : PE X e (tC v)) (r : ∀ m H, RV X.K m H k v) : PE X e (tE et X.K W fun _ h => .ok k h) :=
  h.imp fun σ H Q ⟨m, sl, h, rl, rs, p⟩ => p m H v Ext.refl rl (r m H)
theorem sE_var {i : Nat} (h : PE X e (tVar i)) : PE X e (tE et X.K W fun sl h => match sl[i]? with | some (some c) => .ok c h | _ => .bad) :=
  h.imp fun σ H Q ⟨m, sl, h, rl, rs, p⟩ => by
    dsimp only at p
    cases e : sl[i]? with
    | none => rw [e] at p; exact False.elim p
    | some o =>
      cases o with
      | none => rw [e] at p; exact False.elim p
      | some c =>
        rw [e] at p
        obtain ⟨v, e1, e2⟩ := rs.at_ i c e
        exact ⟨v, e1, p m H v Ext.refl rl e2⟩
theorem bin_imp {r : R2} {opf : C → C → Hc → R C} (ok : ∀ (σ : L2.St) (m : List Addr) (H : Hp) (h : Hc) (x y : C) (v u : V) (Q : VK), Rl X.K m h H → RV X.K m H x v → RV X.K m H y u → Post et X.K (fun c d H' => W c d σ H') m H (relV X.K) Q (opf x y h) → r v u H Q)
    (σ : L2.St) (H : Hp) (Q : VK) (h : tE et X.K W (fun sl h => (fa sl h).bind fun x h1 => (fb sl h1).bind fun y h2 => opf x y h2) σ H Q) : tOp r (tE et X.K W fa) (tE et X.K W fb) σ H Q := by
  obtain ⟨m, sl, h, rl, rs, p⟩ := h
  refine ⟨m, sl, h, rl, rs, p.bind fun x h1 e1 m1 H1 v x1 rl1 rv1 p1 => ?_⟩
  refine ⟨m1, sl, h1, rl1, rs.ext x1, p1.bind fun y h2 e2 m2 H2 u x2 rl2 rv2 p2 => ?_⟩
  exact ok σ m2 H2 h2 x y v u Q rl2 (RV.ext x2 rv1) rv2 p2
theorem sE_bin (o : Op) (ha : PE X a (tE et X.K W fa)) (hb : PE X b (tE et X.K W fb)) : PE X (.BinOp a (opr o) b pos) (tE et X.K W fun sl h => (fa sl h).bind fun x h1 => (fb sl h1).bind fun y h2 => binop o x y h2) := by
  have key : ∀ (σ : L2.St), ∃ r : R2, OpR X (binaryOp (opr o)) r ∧ ∀ (m : List Addr) (H : Hp) (h : Hc) (x y : C) (v u : V) (Q : VK), Rl X.K m h H → RV X.K m H x v → RV X.K m H y u → Post et X.K (fun c d H' => W c d σ H') m H (relV X.K) Q (binop o x y h) → r v u H Q := fun σ => binop_ok o
  refine ⟨fun pins s σ H Q I h => ?_⟩
  obtain ⟨r, ho, ok⟩ := key σ
  refine (pe_op ho ha hb).run pins s σ H Q I ?_
  obtain ⟨m, sl, h, rl, rs, p⟩ := h
  refine ⟨m, sl, h, rl, rs, p.bind fun x h1 e1 m1 H1 v x1 rl1 rv1 p1 => ?_⟩
  refine ⟨m1, sl, h1, rl1, rs.ext x1, p1.bind fun y h2 e2 m2 H2 u x2 rl2 rv2 p2 => ?_⟩
  exact ok m2 H2 h2 x y v u Q rl2 (RV.ext x2 rv1) rv2 p2
theorem sE_cmp (o : Cm) (hu : X.A.units + 64 < cLine) (hm : behindInMarks (cmr o) b = false) (ha : PE X a (tE et X.K W fa)) (hb : PE X b (tE et X.K W fb)) : PE X (.Compare a [cmr o] [b] pos) (tE et X.K W fun sl h => (fa sl h).bind fun x h1 => (fb sl h1).bind fun y h2 => cmpop o x y h2) := by
  refine ⟨fun pins s σ H Q I h => ?_⟩
  obtain ⟨r, ho, ok⟩ := cmpop_ok (X := X) (et := et) (W := fun c d H' => W c d σ H') o hu
  refine (pe_cmpR ho ha hb hm).run pins s σ H Q I ?_
  obtain ⟨m, sl, h, rl, rs, p⟩ := h
  refine ⟨m, sl, h, rl, rs, p.bind fun x h1 e1 m1 H1 v x1 rl1 rv1 p1 => ?_⟩
  refine ⟨m1, sl, h1, rl1, rs.ext x1, p1.bind fun y h2 e2 m2 H2 u x2 rl2 rv2 p2 => ?_⟩
  exact ok m2 H2 h2 x y v u Q rl2 (RV.ext x2 rv1) rv2 p2
theorem sT_cmp (o : Cm) (hu : X.A.units + 64 < cLine) (hm : behindInMarks (cmr o) b = false) (ha : PE X a (tE et X.K W fa)) (hb : PE X b (tE et X.K W fb)) : PT X (.Compare a [cmr o] [b] pos) (tT et X.K W fun sl h => (fa sl h).bind fun x h1 => (fb sl h1).bind fun y h2 => (cmpop o x y h2).bind fun z h3 => match z with
    | .bl k => .ok k h3
    | _ => .bad) := by
  refine ⟨fun pins s σ H Q I h => ?_⟩
  obtain ⟨r, ho, ok⟩ := cmpop_ok (X := X) (et := et) (W := fun c d H' => W c d σ H') o hu
  refine (pt_cmpR ho ha hb hm).run pins s σ H Q I ?_
  obtain ⟨m, sl, h, rl, rs, p⟩ := h
  refine ⟨m, sl, h, rl, rs, p.bind fun x h1 e1 m1 H1 v x1 rl1 rv1 p1 => ?_⟩
  refine ⟨m1, sl, h1, rl1, rs.ext x1, p1.bind fun y h2 e2 m2 H2 u x2 rl2 rv2 p2 => ?_⟩
  refine ok m2 H2 h2 x y v u _ rl2 (RV.ext x2 rv1) rv2 (p2.bind fun z h3 e3 m3 H3 t x3 rl3 rv3 p3 => ?_)
  cases z with
  | bl k => cases rv3; exact ⟨k, rfl, p3 m3 H3 k Ext.refl rl3 rfl⟩
  | non => exact False.elim p3
  | int _ => exact False.elim p3
  | str _ => exact False.elim p3
  | tup _ => exact False.elim p3
  | ref _ => exact False.elim p3
  | frz _ => exact False.elim p3
  | rep _ => exact False.elim p3
theorem sE_chain (o o' : Cm) (hu : X.A.units + 64 < cLine) (hm : lastMarks [cmr o, cmr o'] [b, c] = false) (ha : PE X a (tE et X.K W fa)) (hb : PE X b (tE et X.K W fb)) (hc : PE X c (tE et X.K W fc)) : PE X (.Compare a [cmr o, cmr o'] [b, c] pos) (tE et X.K W fun sl h => (fa sl h).bind fun x h1 => (fb sl h1).bind fun y h2 => (cmpop o x y h2).bind fun z h3 => match z with
    | .bl true => (fc sl h3).bind fun u h4 => cmpop o' y u h4
    | .bl false => .ok (.bl false) h3
    | _ => .bad) := by
  refine ⟨fun pins s σ H Q I h => ?_⟩
  obtain ⟨r, ho, ok⟩ := cmpop_ok (X := X) (et := et) (W := fun c d H' => W c d σ H') o hu
  obtain ⟨r', ho', ok'⟩ := cmpop_ok (X := X) (et := et) (W := fun c d H' => W c d σ H') o' hu
  refine (pe_chain ho ho' ha hb hc hm).run pins s σ H Q I ?_
  obtain ⟨m, sl, h, rl, rs, p⟩ := h
  refine ⟨m, sl, h, rl, rs, p.bind fun x h1 e1 m1 H1 v x1 rl1 rv1 p1 => ?_⟩
  refine ⟨m1, sl, h1, rl1, rs.ext x1, p1.bind fun y h2 e2 m2 H2 u x2 rl2 rv2 p2 => ?_⟩
  refine ok m2 H2 h2 x y v u _ rl2 (RV.ext x2 rv1) rv2 (p2.bind fun z h3 e3 m3 H3 t x3 rl3 rv3 p3 => ?_)
  cases z with
  | bl k =>
    cases rv3
    cases k with
    | true =>
      refine ⟨true, rfl, iteT ?_⟩
      refine ⟨m3, sl, h3, rl3, ((rs.ext x1).ext x2).ext x3, Post.bind p3 fun u' h4 e4 m4 H4 t' x4 rl4 rv4 p4 => ?_⟩
      exact ok' m4 H4 h4 y u' u t' Q rl4 (RV.ext x4 (RV.ext x3 rv2)) rv4 p4
    | false => exact ⟨false, rfl, iteF (p3 m3 H3 _ Ext.refl rl3 rfl)⟩
  | non => exact False.elim p3
  | int _ => exact False.elim p3
  | str _ => exact False.elim p3
  | tup _ => exact False.elim p3
  | ref _ => exact False.elim p3
  | frz _ => exact False.elim p3
  | rep _ => exact False.elim p3
theorem sT_chain (o o' : Cm) (hu : X.A.units + 64 < cLine) (hm : lastMarks [cmr o, cmr o'] [b, c] = false) (ha : PE X a (tE et X.K W fa)) (hb : PE X b (tE et X.K W fb)) (hc : PE X c (tE et X.K W fc)) : PT X (.Compare a [cmr o, cmr o'] [b, c] pos) (tT et X.K W fun sl h => (fa sl h).bind fun x h1 => (fb sl h1).bind fun y h2 => (cmpop o x y h2).bind fun z h3 => match z with
    | .bl true => (fc sl h3).bind fun u h4 => (cmpop o' y u h4).bind fun z h5 => match z with
      | .bl k => .ok k h5
      | _ => .bad
    | .bl false => .ok false h3
    | _ => .bad) := by
  refine ⟨fun pins s σ H Q I h => ?_⟩
  obtain ⟨r, ho, ok⟩ := cmpop_ok (X := X) (et := et) (W := fun c d H' => W c d σ H') o hu
  obtain ⟨r', ho', ok'⟩ := cmpop_ok (X := X) (et := et) (W := fun c d H' => W c d σ H') o' hu
  refine (pt_chain ho ho' ha hb hc hm).run pins s σ H Q I ?_
  obtain ⟨m, sl, h, rl, rs, p⟩ := h
  refine ⟨m, sl, h, rl, rs, p.bind fun x h1 e1 m1 H1 v x1 rl1 rv1 p1 => ?_⟩
  refine ⟨m1, sl, h1, rl1, rs.ext x1, p1.bind fun y h2 e2 m2 H2 u x2 rl2 rv2 p2 => ?_⟩
  refine ok m2 H2 h2 x y v u _ rl2 (RV.ext x2 rv1) rv2 (p2.bind fun z h3 e3 m3 H3 t x3 rl3 rv3 p3 => ?_)
  cases z with
  | bl k =>
    cases rv3
    cases k with
    | true =>
      refine ⟨true, rfl, iteT ?_⟩
      refine ⟨m3, sl, h3, rl3, ((rs.ext x1).ext x2).ext x3, Post.bind p3 fun u' h4 e4 m4 H4 t' x4 rl4 rv4 p4 => ?_⟩
      refine ok' m4 H4 h4 y u' u t' _ rl4 (RV.ext x4 (RV.ext x3 rv2)) rv4 (Post.bind p4 fun z' h5 e5 m5 H5 t5 x5 rl5 rv5 p5 => ?_)
      cases z' with
      | bl k => cases rv5; exact ⟨k, rfl, p5 m5 H5 k Ext.refl rl5 rfl⟩
      | non => exact False.elim p5
      | int _ => exact False.elim p5
      | str _ => exact False.elim p5
      | tup _ => exact False.elim p5
      | ref _ => exact False.elim p5
      | frz _ => exact False.elim p5
      | rep _ => exact False.elim p5
    | false => exact ⟨false, rfl, iteF ⟨false, rfl, p3 m3 H3 _ Ext.refl rl3 rfl⟩⟩
  | non => exact False.elim p3
  | int _ => exact False.elim p3
  | str _ => exact False.elim p3
  | tup _ => exact False.elim p3
  | ref _ => exact False.elim p3
  | frz _ => exact False.elim p3
  | rep _ => exact False.elim p3
theorem bl_of {K : PySem.W.Frag} {m : List Addr} {H : Hp} {x : C} {v : V} {g : Bool → R C} {Q : VK} {W' : Value → Option Addr → Hp → Prop} (r : RV K m H x v) (p : Post et K W' m H (relV K) Q (match (generalizing := false) x with | .bl b => g b | _ => .bad)) : ∃ b, x = .bl b ∧ v = .bl b ∧ Post et K W' m H (relV K) Q (g b) := by
  cases x with
  | bl b => cases r; exact ⟨b, rfl, rfl, p⟩
  | non => exact False.elim p
  | int _ => exact False.elim p
  | str _ => exact False.elim p
  | tup _ => exact False.elim p
  | ref _ => exact False.elim p
  | frz _ => exact False.elim p
  | rep _ => exact False.elim p
theorem sE_neg (ha : PE X a (tE et X.K W fa)) : PE X (.UnaryOp .USub a pos) (tE et X.K W fun sl h => (fa sl h).bind fun x h1 => match x with
    | .int i => .ok (.int (-i)) h1
    | _ => .bad) :=
  (pe_un un_neg ha).imp fun σ H Q ⟨m, sl, h, rl, rs, p⟩ => ⟨m, sl, h, rl, rs, p.bind fun x h1 e1 m1 H1 v x1 rl1 rv1 p1 => by
    cases x with
    | int i => cases rv1; exact ⟨i, rfl, p1 m1 H1 _ Ext.refl rl1 rfl⟩
    | non => exact False.elim p1
    | bl _ => exact False.elim p1
    | str _ => exact False.elim p1
    | tup _ => exact False.elim p1
    | ref _ => exact False.elim p1
    | frz _ => exact False.elim p1
    | rep _ => exact False.elim p1⟩
theorem sE_notv (ha : PE X a (tE et X.K W fa)) : PE X (.UnaryOp .Not a pos) (tE et X.K W fun sl h => (fa sl h).bind fun x h1 => match x with
    | .bl b => .ok (.bl (!b)) h1
    | _ => .bad) :=
  (pe_not ha).imp fun σ H Q ⟨m, sl, h, rl, rs, p⟩ => ⟨m, sl, h, rl, rs, p.bind fun x h1 e1 m1 H1 v x1 rl1 rv1 p1 => by
    cases x with
    | bl i => cases rv1; exact ⟨i, rfl, p1 m1 H1 _ Ext.refl rl1 rfl⟩
    | non => exact False.elim p1
    | int _ => exact False.elim p1
    | str _ => exact False.elim p1
    | tup _ => exact False.elim p1
    | ref _ => exact False.elim p1
    | frz _ => exact False.elim p1
    | rep _ => exact False.elim p1⟩
theorem sE_and {rest : List Expr} (ha : PE X a (tE et X.K W fa)) (hb : PE X (.BoolOp .And (b :: rest) pos) (tE et X.K W fb)) : PE X (.BoolOp .And (a :: b :: rest) pos) (tE et X.K W fun sl h => (fa sl h).bind fun x h1 => match x with
    | .bl true => fb sl h1
    | .bl false => .ok (.bl false) h1
    | _ => .bad) :=
  (pe_and ha hb).imp fun σ H Q ⟨m, sl, h, rl, rs, p⟩ => ⟨m, sl, h, rl, rs, p.bind fun x h1 e1 m1 H1 v x1 rl1 rv1 p1 => by
    cases x with
    | bl k =>
      cases rv1
      cases k with
      | true => exact ⟨true, rfl, iteT ⟨m1, sl, h1, rl1, rs.ext x1, p1⟩⟩
      | false => exact ⟨false, rfl, iteF (p1 m1 H1 _ Ext.refl rl1 rfl)⟩
    | non => exact False.elim p1
    | int _ => exact False.elim p1
    | str _ => exact False.elim p1
    | tup _ => exact False.elim p1
    | ref _ => exact False.elim p1
    | frz _ => exact False.elim p1
    | rep _ => exact False.elim p1⟩
theorem sE_or {rest : List Expr} (ha : PE X a (tE et X.K W fa)) (hb : PE X (.BoolOp .Or (b :: rest) pos) (tE et X.K W fb)) : PE X (.BoolOp .Or (a :: b :: rest) pos) (tE et X.K W fun sl h => (fa sl h).bind fun x h1 => match x with
    | .bl false => fb sl h1
    | .bl true => .ok (.bl true) h1
    | _ => .bad) :=
  (pe_or ha hb).imp fun σ H Q ⟨m, sl, h, rl, rs, p⟩ => ⟨m, sl, h, rl, rs, p.bind fun x h1 e1 m1 H1 v x1 rl1 rv1 p1 => by
    cases x with
    | bl k =>
      cases rv1
      cases k with
      | false => exact ⟨false, rfl, iteF ⟨m1, sl, h1, rl1, rs.ext x1, p1⟩⟩
      | true => exact ⟨true, rfl, iteT (p1 m1 H1 _ Ext.refl rl1 rfl)⟩
    | non => exact False.elim p1
    | int _ => exact False.elim p1
    | str _ => exact False.elim p1
    | tup _ => exact False.elim p1
    | ref _ => exact False.elim p1
    | frz _ => exact False.elim p1
    | rep _ => exact False.elim p1⟩
theorem sE_ite (hc : PT X c (tT et X.K W ft)) (ha : PE X a (tE et X.K W fa)) (hb : PE X b (tE et X.K W fb)) : PE X (.IfExp c a b pos) (tE et X.K W fun sl h => (ft sl h).bind fun k h1 => if k then fa sl h1 else fb sl h1) :=
  (pe_ifExp hc ha hb).imp fun σ H Q ⟨m, sl, h, rl, rs, p⟩ => ⟨m, sl, h, rl, rs, p.bind fun k h1 e1 m1 H1 v x1 rl1 rv1 p1 => by
    cases rv1
    cases k with
    | true => exact iteT ⟨m1, sl, h1, rl1, rs.ext x1, p1⟩
    | false => exact iteF ⟨m1, sl, h1, rl1, rs.ext x1, p1⟩⟩
theorem sE_tup {x1 : Nat} (h : PA X es (tA et X.K W fs)) (hn : es.length ≤ 1000) : PE X (.Tuple es x1 pos) (tE et X.K W fun sl h => (fs sl h).bind fun xs h1 => if xs.length ≤ lineN then .ok (.tup xs) h1 else .bad) :=
  (pe_tup h).imp fun σ H Q ⟨m, sl, h, rl, rs, p⟩ => ⟨m, sl, h, rl, rs, p.bind fun xs h1 e1 m1 H1 vs x1 rl1 rv1 p1 => by
    have rv1 : RVs X.K m1 H1 xs vs := rv1
    split at p1
    · rename_i hz
      exact ⟨by rw [← rv1.length]; exact line_le hz, fun p' hp => p1 m1 _ _ (Ext.new hp) (rl1.new hp) (tup_laid rv1 hp)⟩
    · exact False.elim p1⟩
theorem sE_lst (h : PA X es (tA et X.K W fs)) : PE X (.List es pos) (tE et X.K W fun sl h => (fs sl h).bind fun xs h1 => if xs.length ≤ lineN then .ok (.ref h1.length) (h1 ++ [xs]) else .bad) :=
  (pe_lst h).imp fun σ H Q ⟨m, sl, h, rl, rs, p⟩ => ⟨m, sl, h, rl, rs, p.bind fun xs h1 e1 m1 H1 vs x1 rl1 rv1 p1 => by
    have rv1 : RVs X.K m1 H1 xs vs := rv1
    split at p1
    · rename_i hz
      exact ⟨by rw [← rv1.length]; exact line_le hz, fun p' hp => p1 _ _ _ (Ext.newL hp) (rl1.newL hp rv1) (lst_laid rl1)⟩
    · exact False.elim p1⟩
theorem sE_idx (hs : PlainIx b) (ha : PE X a (tE et X.K W fa)) (hb : PE X b (tE et X.K W fb)) : PE X (.Subscript a b pos) (tE et X.K W fun sl h => (fa sl h).bind fun x h1 => (fb sl h1).bind fun y h2 => item x y h2) := by
  refine ⟨fun pins s σ H Q I h => ?_⟩
  obtain ⟨r, ho, ok⟩ := item_ok (X := X) (et := et) (W := fun c d H' => W c d σ H')
  refine (pe_ix ho ha hb hs).run pins s σ H Q I ?_
  obtain ⟨m, sl, h, rl, rs, p⟩ := h
  refine ⟨m, sl, h, rl, rs, p.bind fun x h1 e1 m1 H1 v x1 rl1 rv1 p1 => ?_⟩
  refine ⟨m1, sl, h1, rl1, rs.ext x1, p1.bind fun y h2 e2 m2 H2 u x2 rl2 rv2 p2 => ?_⟩
  exact ok m2 H2 h2 x y v u Q rl2 (RV.ext x2 rv1) rv2 p2
theorem sO_none : PO X none (tO et X.K W fun _ h => .ok none h) := ⟨fun pins s σ H Q I ⟨m, sl, h, rl, rs, p⟩ => po_none.run pins s σ H Q I (p m H _ Ext.refl rl rfl)⟩
theorem sO_some (ha : PE X a (tE et X.K W fa)) : PO X (some a) (tO et X.K W fun sl h => (fa sl h).bind fun x h1 => match x with
    | .int i => .ok (some i) h1
    | _ => .bad) := by
  refine ⟨fun pins s σ H Q I ⟨m, sl, h, rl, rs, p⟩ => (po_some ha).run pins s σ H Q I ⟨m, sl, h, rl, rs, p.bind fun x h1 e1 m1 H1 v x1 rl1 rv1 p1 => ?_⟩⟩
  cases x with
  | int i => cases rv1; exact ⟨i, rfl, p1 m1 H1 _ Ext.refl rl1 rfl⟩
  | non => exact False.elim p1
  | bl _ => exact False.elim p1
  | str _ => exact False.elim p1
  | tup _ => exact False.elim p1
  | ref _ => exact False.elim p1
  | frz _ => exact False.elim p1
  | rep _ => exact False.elim p1
theorem sE_slc {lo hi : Option Expr} {p2 : Pos} {fl fu : Sl → Hc → R (Option Int)} (ha : PE X a (tE et X.K W fa)) (hl : PO X lo (tO et X.K W fl)) (hh : PO X hi (tO et X.K W fu)) :
    PE X (.Subscript a (.Slice lo hi none p2) pos) (tE et X.K W fun sl h => (fa sl h).bind fun x h1 => (fl sl h1).bind fun l h2 => (fu sl h2).bind fun u h3 => slice x l u h3) := by
  refine ⟨fun pins s σ H Q I h => ?_⟩
  obtain ⟨r, ho, ok⟩ := slice_ok (X := X) (et := et) (W := fun c d H' => W c d σ H')
  refine (pe_slice ho ha hl hh).run pins s σ H Q I ?_
  obtain ⟨m, sl, h, rl, rs, p⟩ := h
  refine ⟨m, sl, h, rl, rs, p.bind fun x h1 e1 m1 H1 v x1 rl1 rv1 p1 => ?_⟩
  refine ⟨m1, sl, h1, rl1, rs.ext x1, p1.bind fun l h2 e2 m2 H2 u x2 rl2 rv2 p2 => ?_⟩
  refine ⟨m2, sl, h2, rl2, (rs.ext x1).ext x2, p2.bind fun l' h3 e3 m3 H3 u' x3 rl3 rv3 p3 => ?_⟩
  cases rv2
  cases rv3
  exact ok m3 H3 h3 x l l' v Q rl3 (RV.ext x3 (RV.ext x2 rv1)) p3
theorem sA_nil : PA X [] (tA et X.K W fun _ h => .ok [] h) := pa_nil.imp fun σ H Q ⟨m, sl, h, rl, rs, p⟩ => p m H [] Ext.refl rl rfl
theorem sA_cons (hs : starEach (e :: es) X.env = (false, eval e X.env) :: starEach es X.env) (ha : PE X e (tE et X.K W fa)) (hr : PA X es (tA et X.K W fs)) : PA X (e :: es) (tA et X.K W fun sl h => (fa sl h).bind fun x h1 => (fs sl h1).bind fun xs h2 => .ok (x :: xs) h2) :=
  (pa_cons ha hr hs).imp fun σ H Q ⟨m, sl, h, rl, rs, p⟩ => ⟨m, sl, h, rl, rs, p.bind fun x h1 e1 m1 H1 v x1 rl1 rv1 p1 =>
    ⟨m1, sl, h1, rl1, rs.ext x1, p1.bind fun xs h2 e2 m2 H2 vs x2 rl2 rv2 p2 => p2 m2 H2 (v :: vs) Ext.refl rl2 ⟨v, vs, rfl, RV.ext x2 rv1, rv2⟩⟩⟩
theorem sE_isi {t : Ty} {x : Str} {p1 p2 : Pos} (hg : Gl X "isinstance") (hm : X.mg "isinstance" = none) (hg2 : Gl X x) (hm2 : X.mg x = none) (hx : bootBuiltins x = some (.type t.name)) (hn : x ≠ "__name__") (hd : (x == ("__debug__" : Str)) = false)
    (hs : starEach [a, .Name x p1] X.env = (false, eval a X.env) :: starEach [.Name x p1] X.env) (hpl : (backTo pos (starEach [.Name x p1] X.env)).any (·.1) = false) (ha : PE X a (tE et X.K W fa)) :
    PE X (.Call (.Name "isinstance" p2) [a, .Name x p1] [] pos) (tE et X.K W fun sl h => (fa sl h).bind fun x h1 => .ok (.bl (isiC x t)) h1) := by
  have hb : PE X (.Name x p1) (tC (.ty t.name)) := pe_bltn hg2 hm2 hx rfl hn hd
  have hA : PA X [a, .Name x p1] (tCons (tE et X.K W fa) (tCons (tC (.ty t.name)) tNil)) := pa_cons ha (pa_cons hb pa_nil (by rfl)) hs
  refine (pe_callB call_isi hg hm PyProof.Rows.boot_isinstance hA (by decide) (by decide) hs hpl).imp fun σ H Q ⟨m, sl, h, rl, rs, p⟩ => ⟨m, sl, h, rl, rs, p.bind fun c h1 e1 m1 H1 v x1 rl1 rv1 p1 => ?_⟩
  exact ⟨v, .ty t.name, .type (tyName (tyC c)), .type t.name, isiC c t, rfl, .ty _, tyx_of rl1 rv1, kit_ty (kit_table _ _), p1 m1 H1 _ Ext.refl rl1 rfl⟩
theorem sE_bi {x : Str} {p2 : Pos} {val : Value} (bb : Bi) (hval : biVal bb = val) (hcalm : X.calm = true ∨ bb = .repr) (hgu : X.A.guards = some []) (hu : X.A.units + 70 < cLine)
    (hA : PA X (e :: es) (tA et X.K W fs))
    (hcall : ∀ r, CallR X (biVal bb) r → PE X (.Call (.Name x p2) (e :: es) [] pos) (tCB r (tA et X.K W fs))) :
    PE X (.Call (.Name x p2) (e :: es) [] pos) (tE et X.K W fun sl h => (fs sl h).bind fun xs h1 => bi bb xs h1) := by
  refine ⟨fun pins s σ H Q I h => ?_⟩
  obtain ⟨r, hr, ok⟩ := bi_ok (X := X) (et := et) (W := fun c d H' => W c d σ H') bb hcalm hgu hu
  refine (hcall r hr).run pins s σ H Q I ?_
  obtain ⟨m, sl, h, rl, rs, p⟩ := h
  exact ⟨m, sl, h, rl, rs, p.bind fun xs h1 e1 m1 H1 vs x1 rl1 rv1 p1 => ok m1 H1 h1 xs vs Q rl1 rv1 p1⟩
theorem sT_tr (he : ∀ whole, isTrue a X.env whole = (do let v ← whole; standAt a.pos; holding [v] (truthy v))) (ha : PE X a (tE et X.K W fa)) : PT X a (tT et X.K W fun sl h => (fa sl h).bind fun x h1 => truth x h1) :=
  (pt_truth ha he).imp fun σ H Q ⟨m, sl, h, rl, rs, p⟩ => ⟨m, sl, h, rl, rs, p.bind fun x h1 e1 m1 H1 v x1 rl1 rv1 p1 => truth_ok rl1 rv1 p1⟩
theorem sT_not (ha : PT X a (tT et X.K W ft)) : PT X (.UnaryOp .Not a pos) (tT et X.K W fun sl h => (ft sl h).bind fun k h1 => .ok (!k) h1) :=
  (pt_not ha).imp fun σ H Q ⟨m, sl, h, rl, rs, p⟩ => ⟨m, sl, h, rl, rs, p.bind fun k h1 e1 m1 H1 v x1 rl1 rv1 p1 => by cases rv1; exact p1 m1 H1 _ Ext.refl rl1 rfl⟩
theorem sW_and {rest : List Expr} {fu : Sl → Hc → R Bool} (ha : PT X a (tT et X.K W ft)) (hb : PW X (.BoolOp .And (b :: rest) pos) (tT et X.K W fu)) : PW X (.BoolOp .And (a :: b :: rest) pos) (tT et X.K W fun sl h => (ft sl h).bind fun k h1 => if k then fu sl h1 else .ok false h1) :=
  (pw_and ha hb).imp fun σ H Q ⟨m, sl, h, rl, rs, p⟩ => ⟨m, sl, h, rl, rs, p.bind fun k h1 e1 m1 H1 v x1 rl1 rv1 p1 => by
    cases rv1
    cases k with
    | true => exact iteT ⟨m1, sl, h1, rl1, rs.ext x1, p1⟩
    | false => exact iteF (p1 m1 H1 _ Ext.refl rl1 rfl)⟩
theorem sW_or {rest : List Expr} {fu : Sl → Hc → R Bool} (ha : PT X a (tT et X.K W ft)) (hb : PW X (.BoolOp .Or (b :: rest) pos) (tT et X.K W fu)) : PW X (.BoolOp .Or (a :: b :: rest) pos) (tT et X.K W fun sl h => (ft sl h).bind fun k h1 => if k then .ok true h1 else fu sl h1) :=
  (pw_or ha hb).imp fun σ H Q ⟨m, sl, h, rl, rs, p⟩ => ⟨m, sl, h, rl, rs, p.bind fun k h1 e1 m1 H1 v x1 rl1 rv1 p1 => by
    cases rv1
    cases k with
    | true => exact iteT (p1 m1 H1 _ Ext.refl rl1 rfl)
    | false => exact iteF ⟨m1, sl, h1, rl1, rs.ext x1, p1⟩⟩
end
end Sh
set_option Elab.async false
set_option linter.all false
set_option autoImplicit false
set_option maxRecDepth 100000
set_option maxHeartbeats 8000000
/-! Sh, part E2: enumerate of a tuple. -/
namespace Sh
open PySem PySem.Spec PyProof.Rows L2
open PySem.AutoSeq1 (wpAny_loadPart')
set_option maxHeartbeats 1000000 in
theorem enum_newT (l : Addr) (items : Array Value) (n : Nat) (dct : Option Addr) (sl : Array (Option Value)) :
    Meets (Builtin.«enumerate.__new__» ⟨[.type "enumerate", .ref l], []⟩) (fun _ R s => s.heap.get? l = some { cls := .type "tuple", dict := dct, data := .seq items n, slots := sl } ∧
      R (.ok (.ret (.ref (s.heap.push { cls := .type "tuple_iterator", data := .fields #[.ref l, .int 0 0] }).objs.size)))
        { s with heap := (s.heap.push { cls := .type "tuple_iterator", data := .fields #[.ref l, .int 0 0] }).push { cls := .type "enumerate", data := .fields #[.none, .bool false, .ref s.heap.objs.size, rawInt 0, .none, .none] } }) :=
  .of_wp fun prog w A R s h => by
    obtain ⟨hp, g, d, tk, os⟩ := s; obtain ⟨hl, h⟩ := h
    have hsub := sub_enumerate
    have hT : Heap.IsTuple (Shared.heap ⟨hp, g, d, tk, os⟩) l items := ⟨_, hl, rfl, n, rfl⟩
    wp_walk using wpAny_loadPart' hl
    refine wpAny_stack_any fun st => wpAny_pure ?_
    split
    · rename_i c _ _ _ _ _
      cases (c == Value.type "enumerate")
      · wp_walk using wpAny_loadPart' hl, wpAny_pyIter_tuple hT
        exact ⟨_, rfl, h⟩
      · wp_walk using wpAny_loadPart' hl, wpAny_pyIter_tuple hT
        exact ⟨_, rfl, h⟩
    · wp_walk using wpAny_loadPart' hl, wpAny_pyIter_tuple hT
      exact ⟨_, rfl, h⟩
section
variable {prog : Program} {w : World} {A : Around} {E : Value → Shared → Prop} {s : Shared}
theorem call_enumT {l : Addr} {items : Array Value} {Q : Value → Shared → Prop} (hL : s.heap.IsTuple l items)
    (h : ∀ h', IsEnum h' (s.heap.objs.size + 1) s.heap.objs.size 0 .none → h'.IsTupleIter s.heap.objs.size l 0 →
      (∀ b o, s.heap.get? b = some o → h'.get? b = some o) → Q (.ref (s.heap.objs.size + 1)) { s with heap := h' }) :
    wpAny (model prog w) A (call (.type "enumerate") [.ref l]) Q E s := by
  obtain ⟨⟨c, dct, dt, sl⟩, hl, hc, n, hd⟩ := hL
  replace hc : c = .type "tuple" := hc
  replace hd : dt = .seq items n := hd
  subst hc hd
  refine callType_new F.called_enumerate (by decide) (F.typeCall_enumerate_1 _) (F.newCall_enumerate_1 _) (fun obj => F.args_object_init_2 obj _) F.entry_enumerate_new (enum_newT l items n dct sl) ⟨hl, ?_⟩
  have hz : (s.heap.push { cls := .type "tuple_iterator", data := .fields #[.ref l, .int 0 0] }).objs.size = s.heap.objs.size + 1 := Heap.size_push ..
  have he := Heap.get?_push_size (s.heap.push { cls := .type "tuple_iterator", data := .fields #[.ref l, .int 0 0] }) (o := { cls := .type "enumerate", data := .fields #[.none, .bool false, .ref s.heap.objs.size, rawInt 0, .none, .none] }) rfl
  rw [hz] at he
  show _ ∧ _
  rw [hz]
  exact ⟨⟨_, he, rfl⟩, h _ he ⟨_, Heap.get?_push_of_some _ (Heap.get?_push_size _ rfl), rfl, rfl⟩ fun b o x => Heap.get?_push_of_some _ (Heap.get?_push_of_some _ x)⟩
end
/-- the tuple at a, its items in new pairs -/
def Iten (K : PySem.W.Frag) (a : Addr) (n : Nat) : L2.It :=
  ⟨fun i H => i < n ∧ ∃ (xs : List V) (x : V), SqT K H a xs ∧ xs[i]? = some x, fun i H v H' => ∃ T x, v = .ref T ∧ H T = none ∧ H' = upd H T (.tup [.int (i : Nat), x]) ∧ ∀ xs, SqT K H a xs → xs[i]? = some x, fun i H => ∃ xs : List V, SqT K H a xs ∧ xs.length = n ∧ n ≤ i⟩
theorem turn_enT {P : Program} {w : World} {K : PySem.W.Frag} {elts : List Expr} {kk : Nat} {tpos : Pos} (a e it : Addr) (n : Nat) (hae : a ≠ e) (hai : a ≠ it) :
    Turn P w K (.Tuple elts kk tpos) (Iten K a n) [e, it] e (fun i h => i ≤ n ∧ (∃ old, IsEnum h e it ((i : Nat) : Int) old) ∧ h.IsTupleIter it a i ∧ e ≠ it) where
  mem := by simp
  obj := fun i h st b hb => by
    obtain ⟨_, ⟨old, he⟩, ⟨o, ho, hc, hd⟩, _⟩ := st
    have e' : b = e ∨ b = it := by simpa using hb
    rcases e' with z | z
    · rw [z]; exact ⟨_, he, fun v q => nomatch q⟩
    · rw [z]; exact ⟨o, ho, fun v q => by rw [hd] at q; cases q⟩
  keep := fun i h h' st k => let ⟨hin, ⟨old, he⟩, hi, hne⟩ := st; ⟨hin, ⟨old, k e (by simp) _ he⟩, hi.at fun o q => k it (by simp) o q, hne⟩
  item := by
    intro X hP hw hK hc i pins s σ H E I hf st hg
    subst hP hw hK
    obtain ⟨hin, ⟨old, he⟩, hit, hne⟩ := st
    obtain ⟨hlt, xs, x, hq, hx⟩ := hg
    obtain ⟨its, rv, p, hz⟩ := I.tuple hq
    obtain ⟨u, hu, ru⟩ := rv.get hx
    have hel : e < s.heap.objs.size := Heap.lt_size he
    have hil : it < s.heap.objs.size := by obtain ⟨_, q, _⟩ := hit; exact Heap.lt_size q
    have hT0 : s.heap.IsTuple a its.toArray := p
    have hil2 : i < its.length := (List.getElem?_eq_some_iff.mp hu).1
    refine wpAny_pyNext_enum_itemD (Draws.tuple (A := X.A.in1) (I.ok.hd hc) it a hai its.toArray) he ⟨hit, hT0⟩ (by simpa using hil2) hne (by simp [hne, Ne.symm hae]) fun y h' tk py ho sti hT hsz hk => ?_
    have hy : y = u := by
      have py : its.toArray[i]? = some y := py
      have : its.toArray[i]? = some u := by simpa using hu
      rw [this] at py
      exact (Option.some.inj py).symm
    subst hy
    refine ⟨_, rfl, wpAny_letOwnedTupleGo_enum (s := { s with heap := h', toks := tk + 1 }) ho fun h'' he' sb => ?_⟩
    have hT2 : h''.get? s.heap.objs.size = some { cls := .type "tuple", data := .seq #[.int i tk, y] } := (sb.2 _ (Nat.ne_of_gt hel)).trans hT
    have new : ObjOk X.prog X.w (upd H s.heap.objs.size (.tup [.int (i : Nat), x])) h'' s.heap.objs.size (.tup [.int (i : Nat), x]) :=
      ⟨by show 2 ≤ sizeLine; decide, [.int i tk, y], .cons ⟨_, rfl⟩ (.cons ru .nil), ⟨_, hT2, rfl, _, rfl⟩⟩
    have I1 : Inv X pins σ (upd H s.heap.objs.size (.tup [.int (i : Nat), x])) { s with heap := h'', toks := tk + 1 } :=
      I.turnedNew (ch := [e, it]) (fun b ob hb q => (sb.2 b (fun z => hb (by simp [z]))).trans (hk b ob (fun z => hb (by simp [z])) (fun z => hb (by simp [z])) q)) hf (Nat.le_refl _) new
    refine ⟨.ref s.heap.objs.size, _, I1, rfl, ⟨_, x, rfl, I.hok.fresh (Nat.le_refl _), rfl, fun ys hy => by rw [I.tuple_inj hy hq]; exact hx⟩, ⟨hlt, ⟨y, ?_⟩, sti.1.at fun o q => (sb.2 it (Ne.symm hne)).trans q, hne⟩, fun b hb => ?_⟩
    · have e1 : ((i + 1 : Nat) : Int) = (i : Int) + 1 := by omega
      rw [e1]; exact he'
    · have hb' : b < s.heap.objs.size := by
        have e' : b = e ∨ b = it := by simpa using hb
        rcases e' with z | z
        · rw [z]; exact hel
        · rw [z]; exact hil
      rw [upd_ne (Nat.ne_of_lt hb')]
      exact (hf b hb).1
  done := by
    intro X hP hw hK hc i pins s σ H E I hf st hg
    subst hP hw hK
    obtain ⟨hin, ⟨old, he⟩, hit, hne⟩ := st
    obtain ⟨xs, hq, hxl, hx⟩ := hg
    obtain ⟨its, rv, p, hz⟩ := I.tuple hq
    obtain ⟨f0, f1, f2, f3, f4, f5⟩ := hf it (by simp)
    have hT0 : s.heap.IsTuple a its.toArray := p
    have hl := rv.length
    have en : i = its.toArray.size := by simp; omega
    subst en
    exact wpAny_pyNext_enum_endD (Draws.tuple (A := X.A.in1) (I.ok.hd hc) it a hai its.toArray) he ⟨hit, hT0⟩ fun h' eb => ⟨rfl, I.turned (t' := s.toks) (fun b o hb q => eb b o hb q) f0 f1 f3 f4 f5⟩
  self := fun A i s Q E st h => let ⟨_, ⟨_, he⟩, _⟩ := st; wpAny_pyIter_enum he h
/-- enumerate(x), x a list or a tuple -/
def iEnA (K : PySem.W.Frag) (te : TE) : TI := fun σ H R => te σ H fun v H1 => ∃ (a : Addr) (xs : List V), v = .ref a ∧ ((SqL K H1 a xs ∧ R (Ite K a) H1) ∨ (SqT K H1 a xs ∧ R (Iten K a xs.length) H1))
theorem pi_enA {X : Cx} {e : Expr} {te : TE} {p pos tpos : Pos} {elts : List Expr} {kk : Nat} (hg : Gl X "enumerate") (hm : X.mg "enumerate" = none) (he : PE X e te) (hs : starEach [e] X.env = (false, eval e X.env) :: starEach [] X.env) :
    PI X (.Tuple elts kk tpos) (.Call (.Name "enumerate" p) [e] [] pos) (iEnA X.K te) := by
  refine ⟨fun pins s σ H R I h => ?_⟩
  refine Call_ (ld_blt I hg hm boot_enumerate (PyProof.Rows.callWith_type1 (args_cons (thn (he.run pins s σ H _ I h) fun u s1 ⟨v, H1, I1, r1, q1⟩ => args_nil ?_) hs) hs rfl))
  obtain ⟨a, xs, ev, q⟩ := q1
  subst ev
  obtain rfl : u = Value.ref a := r1
  have fp : ∀ b ∈ [s1.heap.objs.size + 1, s1.heap.objs.size], FpOk X pins H1 b := fun b hb => by
    have e' : b = s1.heap.objs.size + 1 ∨ b = s1.heap.objs.size := by simpa using hb
    have hle : s1.heap.objs.size ≤ b := by
      rcases e' with z | z
      · rw [z]; exact Nat.le_add_right _ _
      · rw [z]; exact Nat.le_refl _
    exact I1.fpOk hle (I1.hok.fresh hle)
  rcases q with ⟨hq, q⟩ | ⟨hq, q⟩
  · obtain ⟨its, rv, p', hz⟩ := I1.list hq
    refine call_enumerate_list p'.isList fun h' he hit hsz hk => wpAny_pyIter_enum he ?_
    have I2 : Inv X pins σ H1 { s1 with heap := h' } := I1.kept (t' := s1.toks) hk
    exact ⟨s1.heap.objs.size + 1, [s1.heap.objs.size + 1, s1.heap.objs.size], _, _, H1, rfl, I2, turn_enum a (s1.heap.objs.size + 1) s1.heap.objs.size, ⟨⟨.none, he⟩, hit, Nat.succ_ne_self _⟩, fp, q⟩
  · obtain ⟨its, rv, p', hz⟩ := I1.tuple hq
    have hT0 : s1.heap.IsTuple a its.toArray := p'
    have ha : a < s1.heap.objs.size := by
      obtain ⟨o, ho, _⟩ := hT0
      exact Heap.lt_size ho
    refine call_enumT hT0 fun h' he hit hk => wpAny_pyIter_enum he ?_
    have I2 : Inv X pins σ H1 { s1 with heap := h' } := I1.kept (t' := s1.toks) hk
    exact ⟨s1.heap.objs.size + 1, [s1.heap.objs.size + 1, s1.heap.objs.size], _, _, H1, rfl, I2, turn_enT a (s1.heap.objs.size + 1) s1.heap.objs.size xs.length (Nat.ne_of_lt (Nat.lt_succ_of_lt ha)) (Nat.ne_of_lt ha), ⟨Nat.zero_le _, ⟨.none, he⟩, hit, Nat.succ_ne_self _⟩, fp, q⟩
end Sh
set_option Elab.async false
set_option linter.all false
set_option autoImplicit false
set_option maxRecDepth 100000
set_option maxHeartbeats 8000000
/-! Sh, part G: a written expression matches a plain one; then the plain one tells what it does. -/
namespace Sh
open PySem PySem.Spec PyProof.Rows L2

structure Cfg where
  N : List Str
  kind : Str → Option NameKind
  fn : List (Str × List Str)
  kw : List (Nat × Nat × List Str × List Nat)
  con : List (Str × C)
  bn : List Str
  gcd : Bool
  cl : Str → Bool := fun _ => false

def visB (cf : Cfg) (x : Str) : Bool := cf.kind x == some .local || cf.kind x == some .cell || cf.kind x == some .free
def glB (cf : Cfg) (x : Str) : Bool := cf.kind x == some .globalImplicit && !(x == ("__debug__" : Str)) && !(x == ("__name__" : Str))
def varB (cf : Cfg) (i : Nat) (x : Str) : Bool := cf.N[i]? == some x && visB cf x && !(x == ("__debug__" : Str)) && !(x == ("__classdict__" : Str))
def freeB (cf : Cfg) (x : Str) : Bool := glB cf x && cf.bn.contains x
def biB (cf : Cfg) (b : Bi) (x : Str) : Bool := match b with
  | .gcd => glB cf x && cf.gcd
  | _ => freeB cf x
def conIs : Const → C → Bool
  | .none, .non => true
  | .bool a, .bl b => a == b
  | .int i, .int j => i == j
  | .str x, .str y => x == y
  | _, _ => false
def cSame : C → C → Bool
  | .int i, .int j => i == j
  | .str x, .str y => x == y
  | .bl a, .bl b => a == b
  | _, _ => false
def noStar : Expr → Bool
  | .Starred _ _ => false
  | _ => true
def plainT : Expr → Bool
  | .Name _ _ => true
  | .Call _ _ _ _ => true
  | .Subscript _ _ _ => true
  | .Constant _ _ _ => true
  | .BinOp _ _ _ _ => true
  | _ => false
def noSlice : Expr → Bool
  | .Name _ _ => true
  | .Call _ _ _ _ => true
  | .Subscript _ _ _ => true
  | .Constant _ _ _ => true
  | .BinOp _ _ _ _ => true
  | .UnaryOp _ _ _ => true
  | _ => false
def andTail (m : Expr → Bool) (op : BoolOp) (p : Pos) : List Expr → Bool
  | [] => false
  | [y] => m y
  | y :: z :: r => m (.BoolOp op (y :: z :: r) p)
def kwName : Keyword → Option Str := fun k => k.arg

def locB (cf : Cfg) (i : Nat) (x : Str) : Bool := cf.N[i]? == some x && (cf.kind x == some .local || cf.cl x)
def okTg : It → Expr → Bool
  | .enum _ => fun e => match e with
    | .Tuple _ _ _ => true
    | _ => false
  | _ => fun _ => true
def isName : Expr → Bool
  | .Name _ _ => true
  | _ => false
def notSet : Expr → Bool
  | .Set _ _ _ => false
  | _ => true
/-- the names of a comprehension's own block -/
def blkKind (cf : Cfg) (scope : Scope) (y : Str) : Option NameKind := match scope.names.lookup y with
  | some .free => if cf.kind y == some .cell then some .cell else some .free
  | r => r
def Cfg.blk (cf : Cfg) (scope : Scope) : Cfg := { cf with kind := blkKind cf scope, cl := fun y => scope.names.lookup y == some .cell }
def ownOf (cf : Cfg) (vs : List Nat) : List (Str × Nat) := vs.map fun i => (cf.N.getD i "", i)
def blkB (cf : Cfg) (scope : Scope) (vs : List Nat) : Bool := scope.kind == .function && scope.names.all (fun y => scope.names.lookup y.1 == some y.2) && vs.all (fun i => decide (i < cf.N.length)) && scope.names.all (fun y => !(y.2 == .free) || (cf.kind y.1 == some .cell || cf.kind y.1 == some .free)) &&
  scope.names.all fun y => !(y.2 == .local || y.2 == .cell) || (((ownOf cf vs).map (·.1)).contains y.1 || !(cf.N.contains y.1))
mutual
def flatP : Pt → Bool
  | .v _ => true
  | .tup ps => flatPs ps
  | .sub _ _ => false
def flatPs : Pts → Bool
  | .nil => true
  | .cons (.v _) ps => flatPs ps
  | .cons _ _ => false
end
def Pt.isYes : T → Bool
  | .yes => true
  | _ => false
mutual
def mE : E → Cfg → Expr → Bool
  | .con c => fun cf e => match e with
    | .Constant k _ _ => conIs k c
    | _ => false
  | .var i => fun cf e => match e with
    | .Name x _ => varB cf i x
    | _ => false
  | .glob y c => fun cf e => match e with
    | .Name x _ => x == y && glB cf x && cf.con.any fun p => p.1 == x && cSame p.2 c
    | _ => false
  | .bin o a b => fun cf e => match e with
    | .BinOp l op r _ => decide (op = opr o) && (mE a cf l && mE b cf r)
    | _ => false
  | .neg a => fun cf e => match e with
    | .UnaryOp op l _ => decide (op = .USub) && mE a cf l
    | _ => false
  | .notv a => fun cf e => match e with
    | .UnaryOp op l _ => decide (op = .Not) && mE a cf l
    | _ => false
  | .cmp o a b => fun cf e => match e with
    | .Compare l ops rs _ => match ops with
      | [op] => match rs with
        | [r] => decide (op = cmr o) && !(behindInMarks (cmr o) r) && (mE a cf l && mE b cf r)
        | _ => false
      | _ => false
    | _ => false
  | .chain o o' a b c => fun cf e => match e with
    | .Compare l ops rs _ => match ops with
      | [op, op'] => match rs with
        | [r, q] => decide (op = cmr o) && decide (op' = cmr o') && !(lastMarks [cmr o, cmr o'] [r, q]) && (mE a cf l && (mE b cf r && mE c cf q))
        | _ => false
      | _ => false
    | _ => false
  | .andv a b => fun cf e => match e with
    | .BoolOp op l p => match l with
      | x :: l => decide (op = .And) && (mE a cf x && andTail (mE b cf) .And p l)
      | [] => false
    | _ => false
  | .orv a b => fun cf e => match e with
    | .BoolOp op l p => match l with
      | x :: l => decide (op = .Or) && (mE a cf x && andTail (mE b cf) .Or p l)
      | [] => false
    | _ => false
  | .ite t a b => fun cf e => match e with
    | .IfExp c l r _ => mT t cf c && (mE a cf l && mE b cf r)
    | _ => false
  | .tup es => fun cf e => match e with
    | .Tuple l _ _ => decide (l.length ≤ 1000) && mEs es cf l
    | _ => false
  | .lst es => fun cf e => match e with
    | .List l _ => mEs es cf l
    | _ => false
  | .idx a i => fun cf e => match e with
    | .Subscript l r _ => noSlice r && (mE a cf l && mE i cf r)
    | _ => false
  | .slc a lo hi => fun cf e => match e with
    | .Subscript l r _ => match r with
      | .Slice lo' hi' st _ => st.isNone && (mE a cf l && (mO lo cf lo' && mO hi cf hi'))
      | _ => false
    | _ => false
  | .call f es => fun cf e => match e with
    | .Call fn args kws _ => match fn with
      | .Name x _ => kws.isEmpty && glB cf x && decide ((cf.fn[f]?).map (·.1) = some x) && mEs es cf args
      | _ => false
    | _ => false
  | .callk f es ks perm => fun cf e => match e with
    | .Call fn args kws _ => match fn with
      | .Name x _ => glB cf x && decide ((cf.fn[f]?).map (·.1) = some x) && cf.kw.any (fun q => decide (q = (f, args.length, kws.filterMap kwName, perm))) && decide ((kws.filterMap kwName).length = kws.length) && (mEs es cf args && mKs ks cf kws)
      | _ => false
    | _ => false
  | .bi b es => fun cf e => match e with
    | .Call fn args kws _ => match fn with
      | .Name x _ => kws.isEmpty && decide (x = biName b) && biB cf b x && !args.isEmpty && mEs es cf args
      | _ => false
    | _ => false
  | .isi a t => fun cf e => match e with
    | .Call fn args kws _ => match fn with
      | .Name f _ => match args with
        | [l, r] => match r with
          | .Name x _ => kws.isEmpty && decide (f = "isinstance") && freeB cf f && decide (x = Str.ofString t.name) && freeB cf x && noStar l && mE a cf l
          | _ => false
        | _ => false
      | _ => false
    | _ => false
  | .revs a => fun cf e => match e with
    | .Subscript l r _ => match r with
      | .Slice lo hi st _ => lo.isNone && hi.isNone && (match st with
        | some st => match st with
          | .UnaryOp op c _ => decide (op = .USub) && (match c with
            | .Constant k _ _ => (match k with
              | .int i => i == 1
              | _ => false)
            | _ => false)
          | _ => false
        | none => false) && mE a cf l
      | _ => false
    | _ => false
  | .pop a => fun cf e => match e with
    | .Call fn args kws cpos => match fn with
      | .Attribute o nm apos => args.isEmpty && kws.isEmpty && decide (nm = "pop") && isName o && apos.endLine == cpos.line && mE a cf o
      | _ => false
    | _ => false
  | .comp a p it t => fun cf e => match e with
    | .ListComp elt gens scope _ => match gens with
      | [g] => match g with
        | ⟨tg, iter, ifs, asy⟩ => decide (asy = 0) && notSet iter && blkB cf scope p.slots && flatP p && (mI it cf iter && okTg it tg) && mP p (cf.blk scope) tg && (match ifs with
          | [] => Pt.isYes t
          | [c] => mT t (cf.blk scope) c
          | _ => false) && mE a (cf.blk scope) elt
      | _ => false
    | _ => false
  | _ => fun _ _ => false
def mT : T → Cfg → Expr → Bool
  | .tr a => fun cf e => plainT e && mE a cf e
  | .cmp o a b => fun cf e => match e with
    | .Compare l ops rs _ => match ops with
      | [op] => match rs with
        | [r] => decide (op = cmr o) && !(behindInMarks (cmr o) r) && (mE a cf l && mE b cf r)
        | _ => false
      | _ => false
    | _ => false
  | .chn o o' a b c => fun cf e => match e with
    | .Compare l ops rs _ => match ops with
      | [op, op'] => match rs with
        | [r, q] => decide (op = cmr o) && decide (op' = cmr o') && !(lastMarks [cmr o, cmr o'] [r, q]) && (mE a cf l && (mE b cf r && mE c cf q))
        | _ => false
      | _ => false
    | _ => false
  | .and a b => fun cf e => match e with
    | .BoolOp op l p => match l with
      | x :: l => decide (op = .And) && (mT a cf x && andTail (mT b cf) .And p l)
      | [] => false
    | _ => false
  | .or a b => fun cf e => match e with
    | .BoolOp op l p => match l with
      | x :: l => decide (op = .Or) && (mT a cf x && andTail (mT b cf) .Or p l)
      | [] => false
    | _ => false
  | .not a => fun cf e => match e with
    | .UnaryOp op l _ => decide (op = .Not) && mT a cf l
    | _ => false
  | _ => fun _ _ => false
def mEs : Es → Cfg → List Expr → Bool
  | .nil => fun cf l => l.isEmpty
  | .cons a es => fun cf l => match l with
    | x :: l => noStar x && (mE a cf x && mEs es cf l)
    | [] => false
def mKs : Es → Cfg → List Keyword → Bool
  | .nil => fun cf l => l.isEmpty
  | .cons a es => fun cf l => match l with
    | x :: l => mE a cf x.value && mKs es cf l
    | [] => false
def mO : Oe → Cfg → Option Expr → Bool
  | .none => fun cf l => l.isNone
  | .some a => fun cf l => match l with
    | some x => mE a cf x
    | none => false
def mP : Pt → Cfg → Expr → Bool
  | .v i => fun cf e => match e with
    | .Name x _ => locB cf i x
    | _ => false
  | .sub o i => fun cf e => match e with
    | .Subscript l r _ => noSlice r && (mE o cf l && mE i cf r)
    | _ => false
  | .tup ps => fun cf e => match e with
    | .Tuple l _ _ => mPs ps cf l
    | _ => false
def mPs : Pts → Cfg → List Expr → Bool
  | .nil => fun cf l => l.isEmpty
  | .cons p ps => fun cf l => match l with
    | x :: l => noStar x && (mP p cf x && mPs ps cf l)
    | [] => false
def mI : It → Cfg → Expr → Bool
  | .seq a => fun cf e => mE a cf e
  | .rng1 a => fun cf e => match e with
    | .Call fn args kws _ => match fn with
      | .Name x _ => match args with
        | [l] => kws.isEmpty && decide (x = "range") && freeB cf x && noStar l && mE a cf l
        | _ => false
      | _ => false
    | _ => false
  | .enum a => fun cf e => match e with
    | .Call fn args kws _ => match fn with
      | .Name x _ => match args with
        | [l] => kws.isEmpty && decide (x = "enumerate") && freeB cf x && noStar l && mE a cf l
        | _ => false
      | _ => false
    | _ => false
  | .rev a => fun cf e => match e with
    | .Call fn args kws _ => match fn with
      | .Name x _ => match args with
        | [l] => kws.isEmpty && decide (x = "reversed") && freeB cf x && noStar l && mE a cf l
        | _ => false
      | _ => false
    | _ => false
  | .rng2 a b => fun cf e => match e with
    | .Call fn args kws _ => match fn with
      | .Name x _ => match args with
        | [l, r] => kws.isEmpty && decide (x = "range") && freeB cf x && noStar l && noStar r && (mE a cf l && mE b cf r)
        | _ => false
      | _ => false
    | _ => false
  | _ => fun _ _ => false
end

/-- the promise of a def of the plain language -/
def spI (et : ETab) (K : PySem.W.Frag) (f : List C → Hc → R C) : Sp := fun vs H Q E => ∃ m h cs, Rl K m h H ∧ RVs K m H cs vs ∧ Post et K (fun c d H' => E c d H') m H (relV K) Q (f cs h)

/-- what stands around -/
structure Good (cf : Cfg) (et : ETab) (call : Nat → List C → Hc → R C) (k : Nat) (X : Cx) (W : WX) : Prop where
  N : X.N = cf.N
  nd : cf.N.Nodup
  kind : ∀ x, X.env.kindOf x = cf.kind x
  fnc : ∀ x, cf.cl x = true → X.fn x = true ∧ cf.kind x = some .cell
  sk : X.env.scope.kind = .function
  calm : X.calm = true
  room : Room k X.A
  gu : X.A.guards = some []
  tk : Takes X W
  bn : ∀ x, cf.bn.contains x = true → X.mg x = none
  gcd : cf.gcd = true → X.mg "gcd" = some (.builtin "math.gcd")
  con : ∀ x c, (x, c) ∈ cf.con → ∃ v u, X.mg x = some u ∧ RelV v u ∧ ∀ m H, RV X.K m H c v
  fn : ∀ (f : Nat) (x : Str) (ps : List Str), cf.fn[f]? = some (x, ps) → ∃ a fd, X.mg x = some (.ref a) ∧ PySem.W.keepIn X.K (.ref a) = true ∧ Binds X.K fd ps [] ∧ FnOkG X.prog X.w X.K X.mg X.base k a fd ps (spI et X.K (call f)) ∧
    ∀ n ks perm, (f, n, ks, perm) ∈ cf.kw → KBinds X.K fd ps ks (gK n ks.length perm) (gK n ks.length perm) ∧ 0 < ps.length

section
variable {cf : Cfg} {et : ETab} {call : Nat → List C → Hc → R C} {sub : Nat → Str → Option Bool} {w : Nat} {k : Nat} {X : Cx} {W : WX}
theorem star_of {e : Expr} {es : List Expr} {env : Env} (h : noStar e = true) : starEach (e :: es) env = (false, eval e env) :: starEach es env := by
  cases e <;> first | rfl | cases h
theorem two {a b : Bool} (h : (a && b) = true) : a = true ∧ b = true := Bool.and_eq_true_iff.mp h
theorem noB {a : Bool} (h : (!a) = true) : a = false := by cases a <;> first | rfl | cases h
theorem Good.units (g : Good cf et call k X W) : X.A.units + 70 < cLine := by have := g.room.un; omega
theorem Good.gl (g : Good cf et call k X W) {x : Str} (h : glB cf x = true) : Gl X x ∧ (x == ("__debug__" : Str)) = false ∧ x ≠ "__name__" := by
  obtain ⟨h1, h3⟩ := two h
  obtain ⟨h1, h2⟩ := two h1
  refine ⟨?_, noB h2, fun z => ?_⟩
  · show X.env.kindOf x = _
    rw [g.kind x]
    exact beq_iff_eq.mp h1
  · have := noB h3
    rw [z] at this
    simp at this
theorem Good.free (g : Good cf et call k X W) {x : Str} (h : freeB cf x = true) : Gl X x ∧ X.mg x = none ∧ (x == ("__debug__" : Str)) = false ∧ x ≠ "__name__" := by
  obtain ⟨h1, h2⟩ := two h
  obtain ⟨a, b, c⟩ := g.gl h1
  exact ⟨a, g.bn x h2, b, c⟩
theorem truth_he {e : Expr} (h : plainT e = true) (env : Env) : ∀ whole, isTrue e env whole = (do let v ← whole; standAt e.pos; holding [v] (truthy v)) := by
  intro whole
  cases e <;> first | rfl | cases h
theorem plain_ix {e : Expr} (h : noSlice e = true) : PlainIx e := by
  intro o i
  cases e <;> first | rfl | cases h
theorem no_any : ∀ {es : Es} {l : List Expr} {env : Env} {pos : Pos}, mEs es cf l = true → (backTo pos (starEach l env)).any (·.1) = false
  | .nil, l, env, pos, h => by
    cases l with
    | nil => rfl
    | cons _ _ => cases h
  | .cons a es, l, env, pos, h => by
    cases l with
    | nil => cases h
    | cons x l =>
      obtain ⟨h1, h2⟩ := two h
      obtain ⟨h2, h3⟩ := two h2
      rw [star_of h1]
      show (false || (backTo pos (starEach l env)).any (·.1)) = false
      rw [no_any h3]
      rfl
theorem pn_of {p : Bool → Bool} : True := trivial
theorem kw_all : ∀ {kws : List Keyword} {env : Env} {pos : Pos}, (kws.filterMap kwName).length = kws.length → (backToKw pos (keywordEach kws env)).all (·.1.isSome) = true ∧ (backToKw pos (keywordEach kws env)).filterMap (·.1) = kws.filterMap kwName ∧ (backToKw pos (keywordEach kws env)).any (·.1.isNone) = false
  | [], _, _, _ => ⟨rfl, rfl, rfl⟩
  | ⟨nm, v, p⟩ :: kws, env, pos, h => by
    have hle : (kws.filterMap kwName).length ≤ kws.length := List.length_filterMap_le _ _
    cases nm with
    | none =>
      exfalso
      have : (kws.filterMap kwName).length = kws.length + 1 := h
      omega
    | some n =>
      have h' : (kws.filterMap kwName).length = kws.length := by
        have : (kws.filterMap kwName).length + 1 = kws.length + 1 := h
        omega
      obtain ⟨a, b, c⟩ := kw_all (env := env) (pos := pos) h'
      refine ⟨?_, ?_, ?_⟩
      · show (true && (backToKw pos (keywordEach kws env)).all (·.1.isSome)) = true
        rw [a]; rfl
      · show n :: (backToKw pos (keywordEach kws env)).filterMap (·.1) = n :: kws.filterMap kwName
        rw [b]
      · show (false || (backToKw pos (keywordEach kws env)).any (·.1.isNone)) = false
        rw [c]; rfl
theorem sK_nil : PK X [] (tA et X.K W fun _ h => .ok [] h) := ⟨fun pos pins s σ H Q I ⟨m, sl, h, rl, rs, p⟩ => pk_nil.run pos pins s σ H Q I (p m H [] Ext.refl rl rfl)⟩
theorem sK_cons {nm : Option Str} {e : Expr} {kpos : Pos} {kws : List Keyword} {fa : Sl → Hc → R C} {fs : Sl → Hc → R (List C)} (ha : PE X e (tE et X.K W fa)) (hr : PK X kws (tA et X.K W fs)) : PK X (⟨nm, e, kpos⟩ :: kws) (tA et X.K W fun sl h => (fa sl h).bind fun x h1 => (fs sl h1).bind fun xs h2 => .ok (x :: xs) h2) :=
  ⟨fun pos pins s σ H Q I ⟨m, sl, h, rl, rs, p⟩ => (pk_cons ha hr).run pos pins s σ H Q I ⟨m, sl, h, rl, rs, p.bind fun x h1 e1 m1 H1 v x1 rl1 rv1 p1 =>
    ⟨m1, sl, h1, rl1, rs.ext x1, p1.bind fun xs h2 e2 m2 H2 vs x2 rl2 rv2 p2 => p2 m2 H2 (v :: vs) Ext.refl rl2 ⟨v, vs, rfl, RV.ext x2 rv1, rv2⟩⟩⟩⟩
theorem RVs.filterAt {K : PySem.W.Frag} {m : List Addr} {H : Hp} {cs : List C} {vs : List V} (q : RVs K m H cs vs) : ∀ perm : List Nat, RVs K m H (perm.filterMap fun i => cs[i]?) (perm.filterMap fun i => vs[i]?)
  | [] => rfl
  | i :: perm => by
    have ih := RVs.filterAt q perm
    rw [List.filterMap_cons, List.filterMap_cons]
    cases e : cs[i]? with
    | none =>
      have : vs[i]? = none := by
        rw [List.getElem?_eq_none_iff] at e ⊢
        rw [← q.length]; exact e
      rw [this]
      exact ih
    | some c =>
      obtain ⟨v, e1, e2⟩ := q.get e
      rw [e1]
      exact ⟨v, _, rfl, e2, ih⟩
theorem sE_call1 {f : Nat} {x : Str} {p pos : Pos} {e : Expr} {es : List Expr} {fs : Sl → Hc → R (List C)} {ps : List Str} (g : Good cf et call k X W) (hf : cf.fn[f]? = some (x, ps)) (hg : glB cf x = true) (hA : PA X (e :: es) (tA et X.K W fs))
    (s1 : starEach (e :: es) X.env = (false, eval e X.env) :: starEach es X.env) (s2 : (backTo pos (starEach es X.env)).any (·.1) = false) :
    PE X (.Call (.Name x p) (e :: es) [] pos) (tE et X.K W fun sl h => (fs sl h).bind fun xs h1 => call f xs h1) := by
  obtain ⟨a, fd, hm, hk, hb, F, _⟩ := g.fn f x ps hf
  obtain ⟨g1, g2, g3⟩ := g.gl hg
  exact (pe_g F g.gu g.room g1 hm hk hb (E := WE W) (fun σ => passAt g.tk σ) hA g2 s1 s2).imp fun σ H Q ⟨m, sl, h, rl, rs, q⟩ =>
    ⟨m, sl, h, rl, rs, q.bind fun xs h1 e1 m1 H1 vs x1 rl1 rv1 p1 => ⟨m1, h1, xs, rl1, rv1, p1⟩⟩
theorem sE_call0 {f : Nat} {x : Str} {p pos : Pos} {ps : List Str} (g : Good cf et call k X W) (hf : cf.fn[f]? = some (x, ps)) (hg : glB cf x = true) :
    PE X (.Call (.Name x p) [] [] pos) (tE et X.K W fun _ h => call f [] h) := by
  obtain ⟨a, fd, hm, hk, hb, F, _⟩ := g.fn f x ps hf
  obtain ⟨g1, g2, g3⟩ := g.gl hg
  exact (pe_g0 F g.gu g.room g1 hm hk hb (E := WE W) (fun σ => passAt g.tk σ) g2).imp fun σ H Q ⟨m, sl, h, rl, rs, q⟩ => ⟨m, h, [], rl, rfl, q⟩
theorem gK_rel {K : PySem.W.Frag} {m : List Addr} {H : Hp} {n j : Nat} {perm : List Nat} {xs ys : List C} {vs zs : List V} (q : RVs K m H xs vs) (r : RVs K m H ys zs) : RVs K m H (gK n j perm xs ys) (gK n j perm vs zs) := by
  unfold gK
  rw [q.length, r.length]
  split
  · exact RVs.append q (RVs.filterAt r perm)
  · rfl
theorem sE_callk1 {f : Nat} {x : Str} {p pos : Pos} {e : Expr} {es : List Expr} {kws : List Keyword} {fs gs : Sl → Hc → R (List C)} {ps : List Str} {n : Nat} {perm : List Nat} (g : Good cf et call k X W) (hf : cf.fn[f]? = some (x, ps)) (hg : glB cf x = true)
    (hkw : (f, n, kws.filterMap kwName, perm) ∈ cf.kw) (hl : (kws.filterMap kwName).length = kws.length) (hA : PA X (e :: es) (tA et X.K W fs)) (hK : PK X kws (tA et X.K W gs))
    (s1 : starEach (e :: es) X.env = (false, eval e X.env) :: starEach es X.env) (s2 : (backTo pos (starEach es X.env)).any (·.1) = false) :
    PE X (.Call (.Name x p) (e :: es) kws pos) (tE et X.K W fun sl h => (fs sl h).bind fun xs h1 => (gs sl h1).bind fun ys h2 => call f (gK n kws.length perm xs ys) h2) := by
  obtain ⟨a, fd, hm, hk, hb, F, hkb⟩ := g.fn f x ps hf
  obtain ⟨g1, g2, g3⟩ := g.gl hg
  obtain ⟨kb, _⟩ := hkb n _ perm hkw
  obtain ⟨k1, k2, k3⟩ := kw_all (env := X.env) (pos := pos) hl
  refine (pe_gk F g.gu g.room g1 hm hk kb (E := WE W) (fun σ => passAt g.tk σ) hA hK k1 k2 g2 s1 (by
    rw [s1]
    show ((false || (backTo pos (starEach es X.env)).any (·.1)) || _) = false
    rw [s2, k3]; rfl)).imp fun σ H Q ⟨m, sl, h, rl, rs, q⟩ => ⟨m, sl, h, rl, rs, q.bind fun xs h1 e1 m1 H1 vs x1 rl1 rv1 p1 => ?_⟩
  refine ⟨m1, sl, h1, rl1, rs.ext x1, p1.bind fun ys h2 e2 m2 H2 zs x2 rl2 rv2 p2 => ?_⟩
  refine ⟨m2, h2, gK n kws.length perm xs ys, rl2, ?_, p2⟩
  rw [hl]
  exact gK_rel (RVs.ext x2 rv1) rv2
theorem sE_callk0 {f : Nat} {x : Str} {p pos : Pos} {kws : List Keyword} {gs : Sl → Hc → R (List C)} {ps : List Str} {perm : List Nat} (g : Good cf et call k X W) (hf : cf.fn[f]? = some (x, ps)) (hg : glB cf x = true)
    (hkw : (f, 0, kws.filterMap kwName, perm) ∈ cf.kw) (hl : (kws.filterMap kwName).length = kws.length) (hK : PK X kws (tA et X.K W gs)) :
    PE X (.Call (.Name x p) [] kws pos) (tE et X.K W fun sl h => (gs sl h).bind fun ys h2 => call f (gK 0 kws.length perm [] ys) h2) := by
  obtain ⟨a, fd, hm, hk, hb, F, hkb⟩ := g.fn f x ps hf
  obtain ⟨g1, g2, g3⟩ := g.gl hg
  obtain ⟨kb, _⟩ := hkb 0 _ perm hkw
  obtain ⟨k1, k2, k3⟩ := kw_all (env := X.env) (pos := pos) hl
  refine ⟨fun pins s σ H Q I ⟨m, sl, h, rl, rs, q⟩ => ?_⟩
  refine wpAny_Call_Name_kw (ld_glob I g1 hm ?_ g2)
  refine PySem.W.callWith_KW0 (h₀ := X.base) I.ok.mod.kin hk k1 ?_ (by
    show (false || _) = false
    rw [k3]; rfl)
  refine thn (hK.run pos pins s σ H (fun zs H2 => spI et X.K (call f) (gK 0 (kws.filterMap kwName).length perm [] zs) H2 Q (WE W σ)) I ⟨m, sl, h, rl, rs, q.bind fun ys h2 e2 m2 H2 zs x2 rl2 rv2 p2 => ⟨m2, h2, _, rl2, by rw [hl]; exact gK_rel (n := 0) (xs := []) (vs := []) rfl rv2, p2⟩⟩) fun ws s2 ⟨zs, H2, I2, rz, q2⟩ => ⟨I2.kIn, ?_⟩
  rw [k2]
  exact run_gk (us := []) (vs := []) F g.gu g.room kb (E := WE W) (passAt g.tk σ) I2 .nil rz q2
end
end Sh
set_option Elab.async false
set_option linter.all false
set_option autoImplicit false
set_option maxRecDepth 100000
set_option maxHeartbeats 8000000
/-! Sh, part I: statements. -/
namespace Sh
open PySem PySem.Spec PyProof.Rows L2

section
variable (et : ETab) (K : PySem.W.Frag) (W : WX)
def PostS (D : Ends) (m : List Addr) (H : Hp) : RS' → Prop
  | .nx sl h => ∀ m' H' σ', Ext K m H m' H' → Rl K m' h H' → RS K m' H' sl σ' → D.nx σ' H'
  | .ret c h => ∀ m' H' v, Ext K m H m' H' → Rl K m' h H' → RV K m' H' c v → D.rt v H'
  | .bk sl h => ∀ m' H' σ', Ext K m H m' H' → Rl K m' h H' → RS K m' H' sl σ' → D.bk σ' H'
  | .ct sl h => ∀ m' H' σ', Ext K m H m' H' → Rl K m' h H' → RS K m' H' sl σ' → D.ct σ' H'
  | .err k xs sl h => ∀ m' H' σ' cls d, Ext K m H m' H' → Rl K m' h H' → RS K m' H' sl σ' → RX et K m' H' k xs cls d → W cls d σ' H'
  | .bad => False
def tS (f : Sl → Hc → RS') : TS := fun D σ H => ∃ m sl h, Rl K m h H ∧ RS K m H sl σ ∧ PostS et K W D m H (f sl h)
end
def relS (K : PySem.W.Frag) : List Addr → Hp → Sl → L2.St → Prop := fun m H sl σ => RS K m H sl σ
def tG (et : ETab) (K : PySem.W.Frag) (f : C → Sl → Hc → R Sl) : TG := fun v σ H Q => ∃ m sl h c, Rl K m h H ∧ RS K m H sl σ ∧ RV K m H c v ∧ Post et K (fun _ _ _ => False) m H (relS K) Q (f c sl h)
def tGs (et : ETab) (K : PySem.W.Frag) (f : List C → Sl → Hc → R Sl) : TGs := fun vs σ H Q => ∃ m sl h cs, Rl K m h H ∧ RS K m H sl σ ∧ RVs K m H cs vs ∧ Post et K (fun _ _ _ => False) m H (relS K) Q (f cs sl h)

section
variable {et : ETab} {K : PySem.W.Frag} {W : WX} {D : Ends} {m m' : List Addr} {H H' : Hp} {sl : Sl} {σ : L2.St} {α β : Type} {rel : List Addr → Hp → α → β → Prop} {Q : β → Hp → Prop}
theorem PostS.ext {r : RS'} (p : PostS et K W D m H r) (e : Ext K m H m' H') : PostS et K W D m' H' r := by
  cases r with
  | nx sl h => exact fun m2 H2 s x => p m2 H2 s (e.trans x)
  | ret c h => exact fun m2 H2 s x => p m2 H2 s (e.trans x)
  | bk sl h => exact fun m2 H2 s x => p m2 H2 s (e.trans x)
  | ct sl h => exact fun m2 H2 s x => p m2 H2 s (e.trans x)
  | err k xs sl h => exact fun m2 H2 s c d x => p m2 H2 s c d (e.trans x)
  | bad => exact p
theorem PostS.th {r : R α} {f : α → Hc → RS'} (p : PostS et K W D m H (r.th sl f)) (rs : RS K m H sl σ)
    (g : ∀ a h1, r = .ok a h1 → ∀ m1 H1 v, Ext K m H m1 H1 → Rl K m1 h1 H1 → rel m1 H1 a v → PostS et K W D m1 H1 (f a h1) → Q v H1) : Post et K (fun c d H' => W c d σ H') m H rel Q r := by
  cases r with
  | ok a h => exact fun m1 H1 v x rl rv => g a h rfl m1 H1 v x rl rv (PostS.ext p x)
  | err k xs h => exact fun m1 H1 c d x rl rx => p m1 H1 σ c d x rl (rs.ext x) rx
  | bad => exact p
theorem PostS.seq {r : RS'} {f : Sl → Hc → RS'} (p : PostS et K W D m H (r.th f)) : PostS et K W { D with nx := fun σ H => tS et K W f D σ H } m H r := by
  cases r with
  | nx sl h => exact fun m1 H1 s x rl rs => ⟨m1, sl, h, rl, rs, PostS.ext p x⟩
  | ret c h => exact p
  | bk sl h => exact p
  | ct sl h => exact p
  | err k xs sl h => exact p
  | bad => exact p
theorem Post.noerr {r : R α} {Wa Wb : Value → Option Addr → Hp → Prop} (p : Post et K Wa m H rel Q r.noerr) : Post et K Wb m H rel Q r := by
  cases r with
  | ok a h => exact p
  | err k xs h => exact False.elim p
  | bad => exact p
end

section
variable {cf : Cfg} {et : ETab} {call : Nat → List C → Hc → R C} {sub : Nat → Str → Option Bool} {w : Nat} {k : Nat} {X : Cx} {W : WX}

/-! ### targets -/
theorem Good.loc (g : Good cf et call k X W) {i : Nat} {x : Str} (h : locB cf i x = true) : X.N[i]? = some x ∧ Loc X.env.scope x ∧ (X.fn x = true ∨ X.env.scope.names.lookup x = some .local) ∧ X.N.Nodup := by
  obtain ⟨h1, h2⟩ := two h
  have q : X.env.scope.names.lookup x = cf.kind x := g.kind x
  refine ⟨by rw [g.N]; exact beq_iff_eq.mp h1, ?_, ?_, by rw [g.N]; exact g.nd⟩
  · rcases Bool.or_eq_true_iff.mp h2 with z | z
    · exact .inl (q.trans (beq_iff_eq.mp z))
    · exact .inr (q.trans (g.fnc x z).2)
  · rcases Bool.or_eq_true_iff.mp h2 with z | z
    · exact .inr (q.trans (beq_iff_eq.mp z))
    · exact .inl (g.fnc x z).1
theorem RS.setN {K : PySem.W.Frag} {m : List Addr} {H : Hp} {sl : Sl} {σ : L2.St} (r : RS K m H sl σ) (i : Nat) {c : C} {v : V} (q : RV K m H c v) : RS K m H (sl.set i (some c)) (σ.set i (some v)) := r.set i q

theorem asg_of {e : Expr} {es : List Expr} {env : Env} (h : noStar e = true) : assignEach (e :: es) env = (false, assign e env) :: assignEach es env := by
  cases e <;> first | rfl | cases h
theorem asg_len : ∀ {ps : Pts} {l : List Expr} {env : Env}, mPs ps cf l = true → (assignEach l env).length = l.length ∧ (assignEach l env).findIdx? (·.1) = none
  | .nil, l, env, h => by
    cases l with
    | nil => exact ⟨rfl, rfl⟩
    | cons _ _ => cases h
  | .cons p ps, l, env, h => by
    cases l with
    | nil => cases h
    | cons x l =>
      obtain ⟨h1, h2⟩ := two h
      obtain ⟨h2, h3⟩ := two h2
      obtain ⟨q1, q2⟩ := asg_len (env := env) h3
      rw [asg_of h1]
      refine ⟨by simp [q1], ?_⟩
      rw [List.findIdx?_cons, q2]
      rfl
theorem len_ps : ∀ {ps : Pts} {l : List Expr}, mPs ps cf l = true → l.length = ps.len
  | .nil, l, h => by
    cases l with
    | nil => rfl
    | cons _ _ => cases h
  | .cons p ps, l, h => by
    cases l with
    | nil => cases h
    | cons x l =>
      obtain ⟨h1, h2⟩ := two h
      obtain ⟨h2, h3⟩ := two h2
      show l.length + 1 = ps.len + 1
      rw [len_ps h3]
end
end Sh
set_option Elab.async false
set_option linter.all false
set_option autoImplicit false
set_option maxRecDepth 100000
set_option maxHeartbeats 8000000
/-! Sh, part H0: what is walked; comprehensions. -/
namespace Sh
open PySem PySem.Spec PyProof.Rows L2

/-- the layer's iterator does as the plain one, from now on -/
def JRel (K : PySem.W.Frag) (m : List Addr) (H : Hp) (it : ItV) (J : L2.It) : Prop :=
  ∀ (i : Nat) (m' : List Addr) (h' : Hc) (H' : Hp), Ext K m H m' H' → Rl K m' h' H' →
    (it.at_ i h' = some none → J.stop i H') ∧ ∀ c, it.at_ i h' = some (some c) → J.go i H' ∧ ∀ x H2, J.yld i H' x H2 → ∃ m2, Ext K m' H' m2 H2 ∧ Rl K m2 h' H2 ∧ RV K m2 H2 c x
def relJ (K : PySem.W.Frag) : List Addr → Hp → ItV → L2.It → Prop := fun m H it J => JRel K m H it J
def tI (et : ETab) (K : PySem.W.Frag) (W : WX) (f : Sl → Hc → R ItV) : TI := fun σ H R => ∃ m sl h, Rl K m h H ∧ RS K m H sl σ ∧ Post et K (fun c d H' => W c d σ H') m H (relJ K) R (f sl h)
theorem JRel.ext {K : PySem.W.Frag} {m m' : List Addr} {H H' : Hp} {it : ItV} {J : L2.It} (j : JRel K m H it J) (e : Ext K m H m' H') : JRel K m' H' it J := fun i m2 h2 H2 x rl => j i m2 h2 H2 (e.trans x) rl

section
variable {X : Cx} {tg : Expr} {et : ETab} {W : WX}
def iSeq (K : PySem.W.Frag) (tl : TE) : TI := fun σ H R => tl σ H fun x H1 => (∃ a, x = .ref a ∧ (∃ xs, SqL K H1 a xs) ∧ R (Itl K a) H1) ∨ ∃ a, x = .ref a ∧ (∃ xs, SqT K H1 a xs) ∧ R (Itt K a) H1
theorem pi_seq {l : Expr} {tl : TE} (hl : PE X l tl) : PI X tg l (iSeq X.K tl) := by
  refine ⟨fun pins s σ H R I h => ?_⟩
  refine thn (hl.run pins s σ H _ I h) fun v s1 ⟨x, H1, I1, r1, q1⟩ => ?_
  rcases q1 with ⟨a, e, ⟨xs, hq⟩, q⟩ | ⟨a, e, ⟨xs, hq⟩, q⟩
  · subst e
    cases r1
    obtain ⟨its, rv, p, hz⟩ := I1.list hq
    refine wpAny_pyIter_list p.isList ?_
    refine ⟨s1.heap.objs.size, [s1.heap.objs.size], _, _, H1, rfl, I1.kept (t' := s1.toks) fun b o e => Heap.get?_push_of_some _ e, turn_list a _, ⟨_, Heap.get?_push_size _ rfl, rfl, rfl⟩, fun b hb => ?_, q⟩
    have e : b = s1.heap.objs.size := by simpa using hb
    subst e
    exact I1.fpOk (Nat.le_refl _) (I1.hok.fresh (Nat.le_refl _))
  · subst e
    cases r1
    obtain ⟨its, rv, p, hz⟩ := I1.tuple hq
    refine wpAny_pyIter_tuple (show s1.heap.IsTuple a its.toArray from p) ?_
    refine ⟨s1.heap.objs.size, [s1.heap.objs.size], _, _, H1, rfl, I1.kept (t' := s1.toks) fun b o e => Heap.get?_push_of_some _ e, turn_tuple a _, ⟨_, Heap.get?_push_size _ rfl, rfl, rfl⟩, fun b hb => ?_, q⟩
    have e : b = s1.heap.objs.size := by simpa using hb
    subst e
    exact I1.fpOk (Nat.le_refl _) (I1.hok.fresh (Nat.le_refl _))
theorem jr_lst {m : List Addr} {H : Hp} {n : Nat} {a : Addr} (hm : m[n]? = some a) : JRel X.K m H (.lst n) (Itl X.K a) := by
  intro i m' h' H' e rl
  have hm' := e.pre _ _ hm
  obtain ⟨cs, vs, hc, hv, rv⟩ := rl.get hm'
  have at_ : ItV.at_ (.lst n) i h' = some cs[i]? := by
    show (match h'[n]? with | some cs => some cs[i]? | none => none) = _
    rw [hc]
  rw [at_]
  constructor
  · intro z
    have z' : cs[i]? = none := Option.some.inj z
    exact ⟨vs, SqL.of hv, by rw [← rv.length]; exact List.getElem?_eq_none_iff.mp z'⟩
  · intro c z
    have z' : cs[i]? = some c := Option.some.inj z
    obtain ⟨w, w1, w2⟩ := rv.get z'
    refine ⟨⟨vs, w, SqL.of hv, w1⟩, fun x H2 y => ?_⟩
    obtain ⟨rfl, y⟩ := y
    have := (y vs (SqL.of hv)).symm.trans w1
    cases this
    exact ⟨m', Ext.refl, rl, w2⟩
theorem jr_tre {m : List Addr} {H : Hp} {cs : List C} {vs : List V} {a : Addr} (ht : SqT X.K H a vs) (rv : RVs X.K m H cs vs) : JRel X.K m H (.tre cs) (Itt X.K a) := by
  intro i m' h' H' e rl
  have ht' := e.tu _ _ ht
  have rv' := rv.ext e
  have at_ : ItV.at_ (.tre cs) i h' = some cs[i]? := rfl
  rw [at_]
  constructor
  · intro z
    have z' : cs[i]? = none := Option.some.inj z
    exact ⟨vs, ht', by rw [← rv'.length]; exact List.getElem?_eq_none_iff.mp z'⟩
  · intro c z
    have z' : cs[i]? = some c := Option.some.inj z
    obtain ⟨w, w1, w2⟩ := rv'.get z'
    refine ⟨⟨vs, w, ht', w1⟩, fun x H2 y => ?_⟩
    obtain ⟨rfl, y⟩ := y
    have := (y vs ht').symm.trans w1
    cases this
    exact ⟨m', Ext.refl, rl, w2⟩
theorem jr_rng {m : List Addr} {H : Hp} {lo : Int} {n : Nat} : JRel X.K m H (.rng lo n) (Itr lo n) := by
  intro i m' h' H' e rl
  have at_ : ItV.at_ (.rng lo n) i h' = if i < n then some (some (.int (lo + i))) else some none := rfl
  rw [at_]
  by_cases hi : i < n
  · rw [if_pos hi]
    refine ⟨fun z => (by cases z), fun c z => ?_⟩
    cases z
    refine ⟨hi, fun x H2 y => ?_⟩
    obtain ⟨rfl, rfl⟩ := y
    exact ⟨m', Ext.refl, rl, rfl⟩
  · rw [if_neg hi]
    exact ⟨fun _ => Nat.le_of_not_lt hi, fun c z => by cases z⟩
end

/-! ### a list that grows beside the store -/
section
variable {K : PySem.W.Frag} {m m' : List Addr} {H H' : Hp}
structure Xw (K : PySem.W.Frag) (m : List Addr) (H : Hp) (m' : List Addr) (H' : Hp) : Prop where
  pre : ∀ (n : Nat) (a : Addr), m[n]? = some a → m'[n]? = some a
  tu : ∀ a xs, SqT K H a xs → SqT K H' a xs
  fz : ∀ a o u, H a = some (.frz o u) → H' a = some (.frz o u)
mutual
theorem RV.xw (e : Xw K m H m' H') : ∀ {c : C} {v : V}, RV K m H c v → RV K m' H' c v
  | .non, _, h => h
  | .bl _, _, h => h
  | .int _, _, h => h
  | .str _, _, h => h
  | .tup cs, _, h => by
    obtain ⟨a, vs, e1, e2, e3⟩ := h
    exact ⟨a, vs, e1, e.tu _ _ e2, RVs.xw e e3⟩
  | .ref n, _, h => by
    obtain ⟨a, e1, e2⟩ := h
    exact ⟨a, e.pre _ _ e1, e2⟩
  | .frz cs, _, h => by
    obtain ⟨a, vs, e1, e2, e3⟩ := h
    exact ⟨a, vs, e1, e2.imp (fun ⟨o, q⟩ => ⟨o, e.fz _ _ _ q⟩) id, RVs.xw e e3⟩
  | .rep d, _, h => h
theorem RVs.xw (e : Xw K m H m' H') : ∀ {cs : List C} {vs : List V}, RVs K m H cs vs → RVs K m' H' cs vs
  | [], _, h => h
  | c :: cs, _, h => by
    obtain ⟨v, r, e1, e2, e3⟩ := h
    exact ⟨v, r, e1, RV.xw e e2, RVs.xw e e3⟩
end
theorem Xw.more (D : Addr) : Xw K m H (m ++ [D]) H := ⟨fun n a q => by rw [List.getElem?_append_left (List.getElem?_eq_some_iff.mp q).1]; exact q, fun _ _ h => h, fun _ _ _ h => h⟩
theorem Xw.put {D : Addr} {us ws : List V} (hD : H D = some (.lst us)) : Xw K m H m (upd H D (.lst ws)) := by
  have ne : ∀ {b : Addr} {u : HO}, H b = some u → u ≠ .lst us → b ≠ D := fun {b u} q d z => by
    rw [z, hD] at q
    exact d (Option.some.inj q).symm
  refine ⟨fun _ _ q => q, fun b xs q => ?_, fun b o u q => by rw [upd_ne (ne q (by intro z; cases z))]; exact q⟩
  rcases q with (q | ⟨o, q⟩) | q
  · exact .inl (.inl (by rw [upd_ne (ne q (by intro z; cases z))]; exact q))
  · exact .inl (.inr ⟨o, by rw [upd_ne (ne q (by intro z; cases z))]; exact q⟩)
  · exact .inr q
theorem Rl.put {h : Hc} {D : Addr} {us ws : List V} (r : Rl K m h H) (hD : H D = some (.lst us)) (n : D ∉ m) : Rl K m h (upd H D (.lst ws)) := by
  refine ⟨r.len, r.nd, fun i a cs e1 e2 => ?_⟩
  obtain ⟨vs, q1, q2⟩ := r.at_ i a cs e1 e2
  have hne : a ≠ D := by
    rintro rfl
    exact n (List.mem_of_getElem? e1)
  exact ⟨vs, by rw [upd_ne hne]; exact q1, q2.xw (Xw.put hD)⟩
theorem Ext.put {m1 : List Addr} {H1 : Hp} {D : Addr} {us ws : List V} (e : Ext K m1 H1 m H) (h0 : H1 D = none) (hD : H D = some (.lst us)) : Ext K m1 H1 m (upd H D (.lst ws)) := by
  have x := Xw.put (K := K) (m := m) (ws := ws) hD
  refine ⟨e.pre, fun b o q n => ?_, fun a xs q => x.tu _ _ (e.tu a xs q), fun a o u q => x.fz _ _ _ (e.fz a o u q)⟩
  obtain ⟨n1, n2⟩ := e.fr b o q n
  exact ⟨n1, by rw [upd_ne (ne_of_none q h0)]; exact n2⟩
theorem Rl.take_in {h : Hc} {D : Addr} {us : List V} {cs : List C} (r : Rl K m h H) (hD : H D = some (.lst us)) (n : D ∉ m) (q : RVs K m H cs us) : Rl K (m ++ [D]) (h ++ [cs]) H := by
  refine ⟨by simp [r.len], ?_, fun i a ds e1 e2 => ?_⟩
  · refine List.nodup_append.mpr ⟨r.nd, by simp, fun a ha b hb => ?_⟩
    have : b = D := by simpa using hb
    subst this
    rintro rfl
    exact n ha
  · by_cases hl : i < m.length
    · rw [List.getElem?_append_left hl] at e1
      rw [List.getElem?_append_left (r.len ▸ hl)] at e2
      obtain ⟨ws, q1, q2⟩ := r.at_ i a ds e1 e2
      exact ⟨ws, q1, q2.xw (Xw.more D)⟩
    · have hn' : i = m.length := by
        have := (List.getElem?_eq_some_iff.mp e1).1
        simp at this
        omega
      subst hn'
      rw [List.getElem?_append_right (Nat.le_refl _)] at e1
      rw [r.len, List.getElem?_append_right (Nat.le_refl _)] at e2
      simp at e1 e2
      subst e1 e2
      exact ⟨us, hD, q.xw (Xw.more D)⟩
theorem Ext.take_in {m1 : List Addr} {H1 : Hp} {D : Addr} (e : Ext K m1 H1 m H) (h0 : H1 D = none) : Ext K m1 H1 (m ++ [D]) H := by
  refine ⟨fun i a q => (Xw.more (K := K) (H := H) D).pre _ _ (e.pre i a q), fun b o q n => ?_, e.tu, e.fz⟩
  obtain ⟨n1, n2⟩ := e.fr b o q n
  refine ⟨fun z => ?_, n2⟩
  rcases List.mem_append.mp z with z | z
  · exact n1 z
  · have : b = D := by simpa using z
    rw [this, h0] at q
    cases q
theorem RS.setNone {sl : Sl} {σ : L2.St} (r : RS K m H sl σ) (i : Nat) (o : Option V) : RS K m H (sl.set i none) (σ.set i o) := by
  refine r.weak (by simp) (by simp) fun j c q => ?_
  by_cases hj : i = j
  · subst hj
    by_cases hi : i < sl.length
    · rw [List.getElem?_set_self hi] at q
      cases q
    · rw [List.getElem?_eq_none (by simpa using hi)] at q
      cases q
  · rw [List.getElem?_set_ne hj] at q
    exact ⟨q, fun v e => by rw [List.getElem?_set_ne hj]; exact e⟩
theorem RS.wipe {sl : Sl} {σ : L2.St} (r : RS K m H sl σ) : ∀ vs : List Nat, RS K m H (wipeC sl vs) (L2.wipe σ vs)
  | [] => r
  | v :: vs => (RS.wipe r vs).setNone v none
end
/-- targets that are names: what is left where they are forgotten again -/
theorem wipe_set {σ : L2.St} {i : Nat} {o : Option V} : ∀ {vs : List Nat}, i ∈ vs → L2.wipe (σ.set i o) vs = L2.wipe σ vs
  | [], h => by cases h
  | v :: vs, h => by
    show (L2.wipe (σ.set i o) vs).set v none = (L2.wipe σ vs).set v none
    have key : ∀ (vs : List Nat) (σ : L2.St), L2.wipe (σ.set i o) vs = if i ∈ vs then L2.wipe σ vs else (L2.wipe σ vs).set i o := by
      intro vs
      induction vs with
      | nil => intro σ; rfl
      | cons u us ih =>
        intro σ
        show (L2.wipe (σ.set i o) us).set u none = _
        rw [ih]
        by_cases h1 : i ∈ us
        · rw [if_pos h1, if_pos (List.mem_cons_of_mem _ h1)]
          rfl
        · rw [if_neg h1]
          by_cases h2 : i = u
          · subst h2
            rw [if_pos List.mem_cons_self, List.set_set]
            rfl
          · rw [if_neg (by simp [h1, h2])]
            show ((L2.wipe σ us).set i o).set u none = ((L2.wipe σ us).set u none).set i o
            rw [List.set_comm _ _ h2]
    rw [key]
    by_cases h1 : i ∈ vs
    · rw [if_pos h1]
    · rw [if_neg h1]
      rcases List.mem_cons.mp h with rfl | h
      · rw [List.set_set]
      · exact absurd h h1
def NoX : WX := fun _ _ _ _ => False
/-- what the loop of a comprehension is to come to -/
def FinC (K : PySem.W.Frag) (m1 : List Addr) (H1 : Hp) (D : Addr) (Q : V → Hp → Prop) : R (List C) → Prop
  | .ok xs h => ∀ m H us, Ext K m1 H1 m H → Rl K m h H → H D = some (.lst us) → D ∉ m → RVs K m H xs us → Q (.ref D) H
  | _ => False
theorem FinC.bind {et : ETab} {K : PySem.W.Frag} {m1 m : List Addr} {H1 H : Hp} {D : Addr} {Q : V → Hp → Prop} {α β : Type} {rel : List Addr → Hp → α → β → Prop} {Q2 : β → Hp → Prop} {W2 : Value → Option Addr → Hp → Prop} {r : R α} {f : α → Hc → R (List C)} (p : FinC K m1 H1 D Q (r.bind f))
    (g : ∀ a h2, r = .ok a h2 → ∀ m2 H2 v, Ext K m H m2 H2 → Rl K m2 h2 H2 → rel m2 H2 a v → FinC K m1 H1 D Q (f a h2) → Q2 v H2) : Post et K W2 m H rel Q2 r := by
  cases r with
  | ok a h => exact fun m2 H2 v x rl rv => g a h rfl m2 H2 v x rl rv p
  | err _ _ _ => exact False.elim p
  | bad => exact False.elim p
section
variable {X : Cx} {et : ETab} {W : WX} {elt tg iter : Expr} {ifs : List Expr} {scope : Scope} {own : List (Str × Nat)} {pos : Pos}
/-- a reading of a target whose slots are all among vs -/
def tGv (et : ETab) (K : PySem.W.Frag) (vs : List Nat) (f : C → Sl → Hc → R Sl) : TG := fun v σ H Q => ∃ m sl h c, Rl K m h H ∧ RS K m H sl σ ∧ RV K m H c v ∧ Post et K (fun _ _ _ => False) m H (fun m' H' sl' σ' => RS K m' H' sl' σ' ∧ L2.wipe σ' vs = L2.wipe σ vs) Q (f c sl h)
theorem lc_read {fi : Sl → Hc → R ItV} {fg : C → Sl → Hc → R Sl} {ft : Sl → Hc → R Bool} {fe : Sl → Hc → R C} {w : Nat} {K : PySem.W.Frag} {vs : List Nat} {σ : L2.St} {H : Hp} {Q : VK}
    (p : tE et K W (fun sl h => (fi sl h).bind fun v h1 => (compF v fg ft fe w 0 (wipeC sl vs) [] h1).noerr.bind fun xs h2 => .ok (.ref h2.length) (h2 ++ [xs])) σ H Q) : tLc (tI et K W fi) (tGv et K vs fg) (tT et K NoX ft) (tE et K NoX fe) vs σ H Q := by
  obtain ⟨m, sl, h, rl, rs, p⟩ := p
  refine ⟨m, sl, h, rl, rs, p.bind fun it h1 e1 m1 H1 J x1 rl1 j1 p1 => ?_⟩
  intro D hD
  have rs1 := rs.ext x1
  have p0 : FinC K m1 H1 D Q (compF it fg ft fe w 0 (wipeC sl vs) [] h1) := by
    cases e : compF it fg ft fe w 0 (wipeC sl vs) [] h1 with
    | ok xs h3 =>
      rw [e] at p1
      intro m3 H3 us x3 rl3 hD3 n3 rv3
      refine p1 (m3 ++ [D]) H3 (.ref D) (x3.take_in hD) (rl3.take_in hD3 n3 rv3) ⟨D, ?_, rfl⟩
      rw [← rl3.len, List.getElem?_append_right (Nat.le_refl _)]
      simp
    | err _ _ _ => rw [e] at p1; exact False.elim p1
    | bad => rw [e] at p1; exact False.elim p1
  have n1 : D ∉ m1 := rl1.out hD
  refine ⟨fun i n Hh => ∃ m2 h2 acc us, Ext K m1 H1 m2 Hh ∧ Rl K m2 h2 Hh ∧ Hh D = some (.lst us) ∧ D ∉ m2 ∧ RVs K m2 Hh acc us ∧ FinC K m1 H1 D Q (compF it fg ft fe n i (wipeC sl vs) acc h2), ⟨w, m1, h1, [], [], Ext.new hD, rl1.new hD, upd_same, n1, rfl, p0⟩, ?_⟩
  rintro i n Hh ⟨m2, h2, acc, us, x2, rl2, hD2, n2, rv2, p2⟩
  cases n with
  | zero => exact False.elim p2
  | succ n =>
    have p2 : FinC K m1 H1 D Q (match it.at_ i h2 with
      | none => .bad
      | some none => .ok acc h2
      | some (some c) => (fg c (wipeC sl vs) h2).bind fun sl1 h1 => (ft sl1 h1).bind fun k h2 => if k then (fe sl1 h2).bind fun x h3 => if acc.length < lineN then compF it fg ft fe n (i + 1) (wipeC sl vs) (acc ++ [x]) h3 else .bad
        else compF it fg ft fe n (i + 1) (wipeC sl vs) acc h2) := p2
    obtain ⟨q1, q2⟩ := j1 i m2 h2 Hh x2 rl2
    cases e : it.at_ i h2 with
    | none => rw [e] at p2; exact False.elim p2
    | some o =>
      cases o with
      | none =>
        rw [e] at p2
        exact .inl ⟨q1 e, p2 m2 Hh us x2 rl2 hD2 n2 rv2⟩
      | some c =>
        rw [e] at p2
        obtain ⟨go, yl⟩ := q2 c e
        refine .inr ⟨go, fun H' => ∃ n', n' < n + 1 ∧ ∃ m2 h2 acc us, Ext K m1 H1 m2 H' ∧ Rl K m2 h2 H' ∧ H' D = some (.lst us) ∧ D ∉ m2 ∧ RVs K m2 H' acc us ∧ FinC K m1 H1 D Q (compF it fg ft fe n' (i + 1) (wipeC sl vs) acc h2), fun H' q => q, fun x H' y => ?_⟩
        obtain ⟨m3, x3, rl3, rv3⟩ := yl x H' y
        have y3 := x2.trans x3
        refine ⟨m3, wipeC sl vs, h2, c, rl3, (rs1.ext y3).wipe _, rv3, FinC.bind p2 fun sl1 h4 e4 m4 H4 σ4 x4 rl4 rs4 p4 => ⟨?_, m4, sl1, h4, rl4, rs4.1, FinC.bind p4 fun k h5 e5 m5 H5 b x5 rl5 rv5 p5 => ?_⟩⟩
        · have wi : ∀ (vs : List Nat) (σ : L2.St), L2.wipe (L2.wipe σ vs) vs = L2.wipe σ vs := fun vs => by
            have : ∀ (us : List Nat), (∀ u ∈ us, u ∈ vs) → ∀ σ : L2.St, L2.wipe (L2.wipe σ us) vs = L2.wipe σ vs := fun us => by
              induction us with
              | nil => exact fun _ σ => rfl
              | cons u us ih =>
                intro hu σ
                show L2.wipe ((L2.wipe σ us).set u none) vs = _
                rw [wipe_set (hu u List.mem_cons_self), ih fun v hv => hu v (List.mem_cons_of_mem _ hv)]
            exact this vs fun _ h => h
          have := rs4.2
          rw [wi] at this
          exact this
        · cases rv5
          obtain ⟨f1, f2⟩ := ((x3.trans x4).trans x5).fr D _ hD2 n2
          cases k with
          | false =>
            rw [if_neg Bool.false_ne_true] at p5
            rw [if_neg Bool.false_ne_true]
            exact ⟨n, Nat.lt_succ_self n, m5, h5, acc, us, ((y3.trans x4).trans x5), rl5, f2, f1, rv2.ext ((x3.trans x4).trans x5), p5⟩
          | true =>
            rw [if_pos rfl] at p5
            rw [if_pos rfl]
            refine ⟨m5, sl1, h5, rl5, rs4.1.ext x5, FinC.bind p5 fun xc h6 e6 m6 H6 yv x6 rl6 rv6 p6 => ?_⟩
            obtain ⟨f3, f4⟩ := x6.fr D _ f2 f1
            split at p6
            · rename_i hl
              have l2 := rv2.length
              refine ⟨us, f4, by rw [← l2]; exact line_lt hl, n, Nat.lt_succ_self n, m6, h6, acc ++ [xc], us ++ [yv], (((y3.trans x4).trans x5).trans x6).put hD f4, rl6.put f4 f3, upd_same, f3, ?_, p6⟩
              exact (RVs.append (rv2.ext (((x3.trans x4).trans x5).trans x6)) (RVs.one rv6)).xw (Xw.put f4)
            · exact False.elim p6
theorem sE_comp {fi : Sl → Hc → R ItV} {fg : C → Sl → Hc → R Sl} {ft : Sl → Hc → R Bool} {fe : Sl → Hc → R C} {w : Nat} (hc : X.calm = true) (hN : X.N.Nodup) (hi : PI X tg iter (tI et X.K W fi)) (ok : BlkOk X.N X.env.scope scope own)
    (hg : ∀ (s : Shared) (H : Hp) (C : Addr) (cl : List (Str × Addr)) (fp : List Addr), PG (X.blk s H scope (compEnvC scope cl C X.env) fp) tg (tGv et X.K (own.map (·.2)) fg))
    (ht : ∀ (s : Shared) (H : Hp) (C : Addr) (cl : List (Str × Addr)) (fp : List Addr), PTs (X.blk s H scope (compEnvC scope cl C X.env) fp) ifs (tT et X.K NoX ft))
    (he : ∀ (s : Shared) (H : Hp) (C : Addr) (cl : List (Str × Addr)) (fp : List Addr), PE (X.blk s H scope (compEnvC scope cl C X.env) fp) elt (tE et X.K NoX fe)) (hs : ∀ x, foldedSetIterable iter X.env x = pure x) :
    PE X (.ListComp elt [⟨tg, iter, ifs, 0⟩] scope pos) (tE et X.K W fun sl h => (fi sl h).bind fun v h1 => (compF v fg ft fe w 0 (wipeC sl (own.map (·.2))) [] h1).noerr.bind fun xs h2 => .ok (.ref h2.length) (h2 ++ [xs])) :=
  (pe_lc hc hN hi ok hg ht he hs).imp fun σ H Q p => lc_read p
end
end Sh
set_option Elab.async false
set_option linter.all false
set_option autoImplicit false
set_option maxRecDepth 100000
set_option maxHeartbeats 8000000
/-! Sh, part H: every matched expression does what the plain one tells. -/
namespace Sh
open PySem PySem.Spec PyProof.Rows L2
section
variable {cf : Cfg} {et : ETab} {call : Nat → List C → Hc → R C} {sub : Nat → Str → Option Bool} {w : Nat} {k : Nat} {X : Cx} {W : WX}
theorem boot_bi (b : Bi) (h : b ≠ .gcd) : bootBuiltins (biName b) = some (biVal b) := by
  cases b <;> first | exact absurd rfl h | decide +kernel
theorem boot_ty (t : Ty) : bootBuiltins (Str.ofString t.name) = some (.type t.name) := by
  cases t <;> decide +kernel
theorem len_es : ∀ {es : Es} {l : List Expr}, mEs es cf l = true → l.length = es.len
  | .nil, l, h => by
    cases l with
    | nil => rfl
    | cons _ _ => cases h
  | .cons a es, l, h => by
    cases l with
    | nil => cases h
    | cons x l =>
      obtain ⟨h1, h2⟩ := two h
      obtain ⟨h2, h3⟩ := two h2
      show l.length + 1 = es.len + 1
      rw [len_es h3]
theorem len_ks : ∀ {es : Es} {l : List Keyword}, mKs es cf l = true → l.length = es.len
  | .nil, l, h => by
    cases l with
    | nil => rfl
    | cons _ _ => cases h
  | .cons a es, l, h => by
    cases l with
    | nil => cases h
    | cons x l =>
      obtain ⟨h1, h2⟩ := two h
      show l.length + 1 = es.len + 1
      rw [len_ks h2]
theorem fn_get {f : Nat} {x : Str} (h : decide ((cf.fn[f]?).map (·.1) = some x) = true) : ∃ ps, cf.fn[f]? = some (x, ps) := by
  have h' := of_decide_eq_true h
  cases e : cf.fn[f]? with
  | none => rw [e] at h'; cases h'
  | some q =>
    rw [e] at h'
    obtain ⟨y, ps⟩ := q
    have h2 : some y = some x := h'
    cases h2
    exact ⟨ps, rfl⟩
theorem sE_bi_all (g : Good cf et call k X W) {b : Bi} {x : Str} {p pos : Pos} {e : Expr} {es : List Expr} {fs : Sl → Hc → R (List C)} (hx : x = biName b) (hf : biB cf b x = true) (hA : PA X (e :: es) (tA et X.K W fs))
    (s1 : starEach (e :: es) X.env = (false, eval e X.env) :: starEach es X.env) (s2 : (backTo pos (starEach es X.env)).any (·.1) = false) :
    PE X (.Call (.Name x p) (e :: es) [] pos) (tE et X.K W fun sl h => (fs sl h).bind fun xs h1 => bi b xs h1) := by
  subst hx
  refine sE_bi b rfl (.inl g.calm) g.gu g.units hA fun r hr => ?_
  have blt : ∀ id, b ≠ .gcd → biVal b = .builtin id → PE X (.Call (.Name (biName b) p) (e :: es) [] pos) (tCB r (tA et X.K W fs)) := fun id hb hv => by
    have hf' : freeB cf (biName b) = true := by cases b <;> first | exact absurd rfl hb | exact hf
    obtain ⟨f1, f2, f3, f4⟩ := g.free hf'
    rw [hv] at hr
    exact pe_callB hr f1 f2 (by rw [boot_bi b hb, hv]) hA f4 f3 s1 s2
  have ty : ∀ id, b ≠ .gcd → biVal b = .type id → PE X (.Call (.Name (biName b) p) (e :: es) [] pos) (tCB r (tA et X.K W fs)) := fun id hb hv => by
    have hf' : freeB cf (biName b) = true := by cases b <;> first | exact absurd rfl hb | exact hf
    obtain ⟨f1, f2, f3, f4⟩ := g.free hf'
    rw [hv] at hr
    exact pe_callTy hr f1 f2 (by rw [boot_bi b hb, hv]) hA f4 f3 s1 s2
  have ng : ∀ {c : Bi}, c = .gcd ∨ c ≠ .gcd := fun {c} => by cases c <;> first | exact .inl rfl | exact .inr (by intro z; cases z)
  cases b with
  | gcd =>
    obtain ⟨h1, h2⟩ := two hf
    obtain ⟨f1, f2, f3⟩ := g.gl h1
    exact pe_callBfun hr f1 (g.gcd h2) hA f2 s1 s2
  | len => exact blt _ (by intro z; cases z) rfl
  | abs => exact blt _ (by intro z; cases z) rfl
  | max2 => exact blt _ (by intro z; cases z) rfl
  | min2 => exact blt _ (by intro z; cases z) rfl
  | sum => exact blt _ (by intro z; cases z) rfl
  | divmod => exact blt _ (by intro z; cases z) rfl
  | repr => exact blt _ (by intro z; cases z) rfl
  | tuple => exact ty _ (by intro z; cases z) rfl
  | list => exact ty _ (by intro z; cases z) rfl
  | maxL => exact blt _ (by intro z; cases z) rfl
  | minL => exact blt _ (by intro z; cases z) rfl
  | int => exact ty _ (by intro z; cases z) rfl
  | bool => exact ty _ (by intro z; cases z) rfl
  | all => exact blt _ (by intro z; cases z) rfl
  | any => exact blt _ (by intro z; cases z) rfl

theorem bool_tail {op : BoolOp} {p : Pos} {m : Expr → Bool} {l : List Expr} {t : TE} (h : andTail m op p l = true) (ih : ∀ e, m e = true → PE X e t) : ∃ y r, l = y :: r ∧ PE X (.BoolOp op (y :: r) p) t := by
  match l, h with
  | [], h => cases h
  | [y], h => exact ⟨y, [], rfl, pe_one (ih y h)⟩
  | y :: z :: r, h => exact ⟨y, z :: r, rfl, ih _ h⟩
/-- a test that is an and, an or of tests, is so whatever its whole is -/
def PTW (X : Cx) (e : Expr) (t : TT) : Prop := PT X e t ∧ ∀ op l p, e = .BoolOp op l p → PW X e t
theorem test_tail {op : BoolOp} {p : Pos} {m : Expr → Bool} {l : List Expr} {t : TT} (h : andTail m op p l = true) (ih : ∀ e, m e = true → PTW X e t) : ∃ y r, l = y :: r ∧ PW X (.BoolOp op (y :: r) p) t := by
  match l, h with
  | [], h => cases h
  | [y], h =>
    refine ⟨y, [], rfl, ?_⟩
    cases op with
    | And => exact pw_and1 (ih y h).1
    | Or => exact pw_or1 (ih y h).1
  | y :: z :: r, h => exact ⟨y, z :: r, rfl, (ih _ h).2 _ _ _ rfl⟩

end
/-! ### the block of a comprehension -/
section
variable {cf : Cfg} {et : ETab} {call : Nat → List C → Hc → R C} {sub : Nat → Str → Option Bool} {w : Nat} {k : Nat} {X : Cx} {W : WX}
theorem blk_kind (g : Good cf et call k X W) (scope : Scope) (cl : List (Str × Addr)) (C' : Addr) (y : Str) : (compEnvC scope cl C' X.env).kindOf y = blkKind cf scope y := by
  show (scope.names.map fun (n, k) => if (k == NameKind.free && X.env.scope.kind == .function && X.env.kindOf n == some .cell) then (n, NameKind.cell) else (n, k)).lookup y = _
  unfold blkKind
  rw [← g.kind y]
  have sk : (X.env.scope.kind == .function) = true := by rw [g.sk]; rfl
  induction scope.names with
  | nil => rfl
  | cons p l ih =>
    obtain ⟨n, kd⟩ := p
    show List.lookup y ((if (kd == NameKind.free && X.env.scope.kind == .function && X.env.kindOf n == some .cell) = true then (n, NameKind.cell) else (n, kd)) :: _) = match List.lookup y ((n, kd) :: l) with
      | some .free => if X.env.kindOf y == some .cell then some .cell else some .free
      | r => r
    by_cases hn : y = n
    · subst hn
      rw [sk, Bool.and_true]
      have l1 : ∀ k r, List.lookup y ((y, k) :: r : List (Str × NameKind)) = some k := fun k r => by simp [List.lookup]
      rw [l1]
      cases hc : (X.env.kindOf y == some NameKind.cell) with
      | true =>
        cases kd <;> first | exact l1 _ _ | rfl
      | false =>
        rw [Bool.and_false, if_neg Bool.false_ne_true, l1]
        cases kd <;> rfl
    · have hb : (y == n) = false := by simpa using hn
      have l2 : ∀ k r, List.lookup y ((n, k) :: r : List (Str × NameKind)) = List.lookup y r := fun k r => by rw [List.lookup_cons, hb]
      rw [l2]
      cases hc : (kd == NameKind.free && X.env.scope.kind == .function && X.env.kindOf n == some .cell) with
      | true => rw [if_pos rfl, l2]; exact ih
      | false => rw [if_neg Bool.false_ne_true, l2]; exact ih
theorem good_blk (g : Good cf et call k X W) {scope : Scope} (hk : scope.kind = .function) (s : Shared) (H : Hp) (C' : Addr) (cl : List (Str × Addr)) (fp : List Addr) : Good (cf.blk scope) et call k (X.blk s H scope (compEnvC scope cl C' X.env) fp) NoX := by
  refine ⟨g.N, g.nd, fun x => blk_kind g scope cl C' x, fun x hx => ⟨hx, ?_⟩, hk, g.calm, g.room, g.gu, fun _ _ x => ?_, g.bn, g.gcd, g.con, g.fn⟩
  · have hx : scope.names.lookup x = some .cell := beq_iff_eq.mp hx
    show blkKind cf scope x = _
    unfold blkKind
    rw [hx]
  · obtain ⟨_, _, _, _, _, _, _, _, _, _, _, _, _, _, _, _, z⟩ := x
    exact z.elim
theorem blk_ok (g : Good cf et call k X W) {scope : Scope} {vs : List Nat} (h : blkB cf scope vs = true) : BlkOk X.N X.env.scope scope (ownOf cf vs) ∧ (ownOf cf vs).map (·.2) = vs := by
  obtain ⟨h, h5⟩ := two h
  obtain ⟨h, h4⟩ := two h
  obtain ⟨h, h3⟩ := two h
  obtain ⟨h1, h2⟩ := two h
  refine ⟨⟨beq_iff_eq.mp h1, fun y hy => beq_iff_eq.mp (List.all_eq_true.mp h2 y hy), fun p hp => ?_, fun y hy e => ?_, fun y hy e => ?_⟩, ?_⟩
  · obtain ⟨i, hi, rfl⟩ := List.mem_map.mp hp
    have hl : i < cf.N.length := of_decide_eq_true (List.all_eq_true.mp h3 i hi)
    rw [g.N]
    show cf.N[i]? = some (cf.N.getD i "")
    rw [List.getD_eq_getElem?_getD, List.getElem?_eq_getElem hl]
    rfl
  · have := List.all_eq_true.mp h4 y hy
    rw [e] at this
    have this : (cf.kind y.1 == some .cell || cf.kind y.1 == some .free) = true := by simpa using this
    rw [← g.kind y.1] at this
    rcases Bool.or_eq_true_iff.mp this with z | z
    · exact .inl (beq_iff_eq.mp z)
    · exact .inr (beq_iff_eq.mp z)
  · have := List.all_eq_true.mp h5 y hy
    have hk : (y.2 == NameKind.local || y.2 == NameKind.cell) = true := by
      rcases e with e | e <;> rw [e] <;> rfl
    rw [hk] at this
    have this : (((ownOf cf vs).map (·.1)).contains y.1 || !(cf.N.contains y.1)) = true := this
    rcases Bool.or_eq_true_iff.mp this with z | z
    · exact .inl (List.contains_iff_mem.mp z)
    · refine .inr fun hm => ?_
      rw [g.N] at hm
      rw [List.contains_iff_mem.mpr hm] at z
      cases z
  · unfold ownOf
    rw [List.map_map]
    exact List.map_id _
def tGvs (et : ETab) (K : PySem.W.Frag) (vs : List Nat) (f : List C → Sl → Hc → R Sl) : TGs := fun us σ H Q => ∃ m sl h cs, Rl K m h H ∧ RS K m H sl σ ∧ RVs K m H cs us ∧ Post et K (fun _ _ _ => False) m H (fun m' H' sl' σ' => RS K m' H' sl' σ' ∧ L2.wipe σ' vs = L2.wipe σ vs) Q (f cs sl h)
theorem flats_ok (g : Good cf et call k X W) {vs : List Nat} : ∀ (ps : Pts) (l : List Expr), flatPs ps = true → (∀ i ∈ ps.slots, i ∈ vs) → mPs ps cf l = true → PGs X l (tGvs et X.K vs (Pts.put call sub w none ps))
  | .nil, l, hf, hv, h => by
    cases l with
    | cons _ _ => cases h
    | nil =>
      refine ⟨fun pins s σ H us ws Q I r ⟨m, sl, hh, cs, rl, rs, rv, p⟩ => pgs_nil.run pins s σ H us ws Q I r ?_⟩
      cases cs with
      | nil =>
        cases rv
        exact ⟨rfl, p m H σ Ext.refl rl ⟨rs, rfl⟩⟩
      | cons _ _ => exact False.elim p
  | .cons (.v i) ps, l, hf, hv, h => by
    cases l with
    | nil => cases h
    | cons x l =>
      obtain ⟨h1, h2⟩ := two h
      obtain ⟨h2, h3⟩ := two h2
      cases x <;> try (cases h2; done)
      rename_i x pos
      obtain ⟨q1, q2, q3, q4⟩ := g.loc h2
      have hi : i ∈ vs := hv i (List.mem_append_left _ List.mem_cons_self)
      have ih := flats_ok g ps l hf (fun j hj => hv j (List.mem_append_right _ hj)) h3
      refine ⟨fun pins s σ H us ws Q I r ⟨m, sl, hh, cs, rl, rs, rv, p⟩ => (pgs_cons (pg_name q4 q1 q2 q3) ih (by rw [asg_of h1]; rfl)).run pins s σ H us ws Q I r ?_⟩
      cases cs with
      | nil => exact False.elim p
      | cons c cs =>
        obtain ⟨v, t, rfl, r1, r2⟩ := rv
        refine ⟨v, t, rfl, m, sl.set i (some c), hh, cs, rl, rs.set i r1, r2, ?_⟩
        have p : Post et X.K (fun _ _ _ => False) m H (fun m' H' sl' σ' => RS X.K m' H' sl' σ' ∧ L2.wipe σ' vs = L2.wipe σ vs) Q (Pts.put call sub w none ps cs (sl.set i (some c)) hh) := p
        rw [show L2.wipe (σ.set i (some v)) vs = L2.wipe σ vs from wipe_set hi]
        exact p
  | .cons (.sub _ _) ps, l, hf, hv, h => by cases hf
  | .cons (.tup _) ps, l, hf, hv, h => by cases hf
theorem flat_ok (g : Good cf et call k X W) {vs : List Nat} : ∀ (p : Pt) (e : Expr), flatP p = true → (∀ i ∈ p.slots, i ∈ vs) → mP p cf e = true → PG X e (tGv et X.K vs (Pt.put call sub w none p))
  | .v i, e, hf, hv, h => by
    cases e <;> try (cases h; done)
    rename_i x pos
    obtain ⟨q1, q2, q3, q4⟩ := g.loc h
    refine ⟨fun pins s σ H v u Q I r ⟨m, sl, hh, c, rl, rs, rv, p⟩ => (pg_name q4 q1 q2 q3).run pins s σ H v u Q I r ?_⟩
    exact p m H (σ.set i (some v)) Ext.refl rl ⟨rs.set i rv, wipe_set (hv i List.mem_cons_self)⟩
  | .sub _ _, e, hf, hv, h => by cases hf
  | .tup ps, e, hf, hv, h => by
    cases e <;> try (cases h; done)
    rename_i l kk pos
    have ih := flats_ok g (vs := vs) (sub := sub) (w := w) ps l hf hv h
    obtain ⟨q1, q2⟩ := asg_len (env := X.env) h
    refine ⟨fun pins s σ H v u Q I r ⟨m, sl, hh, c, rl, rs, rv, p⟩ => (pg_tup (n := l.length) g.calm ih q1 q2).run pins s σ H v u Q I r ?_⟩
    cases c <;> try (exact False.elim p)
    rename_i cs
    obtain ⟨a, us, rfl, e2, e3⟩ := rv
    have p : Post et X.K (fun _ _ _ => False) m H (fun m' H' sl' σ' => RS X.K m' H' sl' σ' ∧ L2.wipe σ' vs = L2.wipe σ vs) Q (if cs.length = ps.len then Pts.put call sub w none ps cs sl hh else .bad) := p
    split at p
    · rename_i hl
      exact ⟨a, us, rfl, e2, by rw [← e3.length, len_ps h]; exact hl, m, sl, hh, cs, rl, rs, e3, p⟩
    · exact p.elim
theorem base_of {o : Expr} {n : Str} {env : Env} {wh : Sem Value} (h : isName o = true) : attributeBase o n env wh = wh := by
  cases o <;> first | rfl | cases h
theorem RVs.dropLast {K : PySem.W.Frag} {m : List Addr} {H : Hp} {cs : List C} {vs : List V} (q : RVs K m H cs vs) : RVs K m H cs.dropLast vs.dropLast := by
  rw [List.dropLast_eq_take, List.dropLast_eq_take, ← q.length]
  exact RVs.take _ q
theorem sE_pop {o : Expr} {apos cpos : Pos} {fa : Sl → Hc → R C} (hb : attributeBase o "pop" X.env (eval o X.env) = eval o X.env) (hl : (apos.endLine == cpos.line) = true) (ha : PE X o (tE et X.K W fa)) :
    PE X (.Call (.Attribute o "pop" apos) [] [] cpos) (tE et X.K W fun sl h => (fa sl h).bind fun x h1 => match x with
      | .ref n => match h1[n]? with
        | some xs => match xs[xs.length - 1]? with
          | some c => .ok c (h1.set n xs.dropLast)
          | none => .bad
        | none => .bad
      | _ => .bad) := by
  refine (pe_bm0 PySem.F.plainAttrs_list PySem.F.slot_list_pop PySem.F.type_list_pop mt_pop ha hb hl).imp fun σ H Q ⟨m, sl, h, rl, rs, p⟩ => ⟨m, sl, h, rl, rs, p.bind fun x h1 e1 m1 H1 v x1 rl1 rv1 p1 => ?_⟩
  cases x <;> try (exact False.elim p1)
  rename_i n
  obtain ⟨a, q1, rfl⟩ := rv1
  obtain ⟨cs, vs, e2, q2, q3⟩ := rl1.get q1
  dsimp only at p1
  rw [e2] at p1
  dsimp only at p1
  cases e3 : cs[cs.length - 1]? with
  | none => rw [e3] at p1; exact False.elim p1
  | some c =>
    rw [e3] at p1
    obtain ⟨w, w1, w2⟩ := q3.get e3
    refine ⟨.inl ⟨rfl, vs, SqL.of q2⟩, a, vs, w, rfl, rfl, q2, by rw [← q3.length]; exact w1, ?_⟩
    have ex : Ext X.K m1 H1 m1 (upd H1 a (.lst vs.dropLast)) := Ext.write (List.mem_of_getElem? q1) q2
    exact p1 m1 _ w ex (rl1.write q1 q2 q3.dropLast) (RV.ext ex w2)
theorem RVs.rev {K : PySem.W.Frag} {m : List Addr} {H : Hp} {cs : List C} {vs : List V} (q : RVs K m H cs vs) : RVs K m H cs.reverse vs.reverse := RVs.reverse q
theorem sE_revs {l : Expr} {kk : Nat} {p1 p2 p3 pos : Pos} {fa : Sl → Hc → R C} (ha : PE X l (tE et X.K W fa)) :
    PE X (.Subscript l (.Slice none none (some (.UnaryOp .USub (.Constant (.int 1) kk p1) p2)) p3) pos) (tE et X.K W fun sl h => (fa sl h).bind fun x h1 => match x with
      | .ref n => match h1[n]? with
        | some cs => .ok (.ref h1.length) (h1 ++ [cs.reverse])
        | none => .bad
      | .frz cs => .ok (.ref h1.length) (h1 ++ [cs.reverse])
      | _ => .bad) := by
  refine (pe_revL ha).imp fun σ H Q ⟨m, sl, h, rl, rs, p⟩ => ⟨m, sl, h, rl, rs, p.bind fun x h1 e1 m1 H1 v x1 rl1 rv1 p1 => ?_⟩
  cases x <;> try (exact False.elim p1)
  · rename_i n
    obtain ⟨a, q1, rfl⟩ := rv1
    obtain ⟨cs, vs, e2, q2, q3⟩ := rl1.get q1
    dsimp only at p1
    rw [e2] at p1
    exact ⟨a, vs, rfl, SqL.of q2, fun p' hp => p1 _ _ _ (Ext.newL hp) (rl1.newL hp q3.reverse) (lst_laid rl1)⟩
  · rename_i cs
    obtain ⟨a, vs, rfl, e2, e3⟩ := rv1
    exact ⟨a, vs, rfl, e2.sq, fun p' hp => p1 _ _ _ (Ext.newL hp) (rl1.newL hp e3.reverse) (lst_laid rl1)⟩
theorem jr_revl {m : List Addr} {H : Hp} {n kk : Nat} {a : Addr} (hm : m[n]? = some a) : JRel X.K m H (.revl n kk) (Itv X.K a kk) := by
  intro i m' h' H' e rl
  have hm' := e.pre _ _ hm
  obtain ⟨cs, vs, hc, hv, rv⟩ := rl.get hm'
  have at_ : ItV.at_ (.revl n kk) i h' = if i < kk then (match cs[kk - 1 - i]? with
      | some c => some (some c)
      | none => none) else some none := by
    show (if i < kk then (match h'[n]? with
      | some cs => (match cs[kk - 1 - i]? with
        | some c => some (some c)
        | none => none)
      | none => none) else some none) = _
    rw [hc]
  rw [at_]
  by_cases hi : i < kk
  · rw [if_pos hi]
    cases e1 : cs[kk - 1 - i]? with
    | none => exact ⟨fun z => (by cases z), fun c z => (by cases z)⟩
    | some c0 =>
      refine ⟨fun z => (by cases z), fun c z => ?_⟩
      cases z
      obtain ⟨w, w1, w2⟩ := rv.get e1
      refine ⟨⟨hi, vs, w, SqL.of hv, w1⟩, fun x H2 y => ?_⟩
      obtain ⟨rfl, y⟩ := y
      have := (y vs (SqL.of hv)).symm.trans w1
      cases this
      exact ⟨m', Ext.refl, rl, w2⟩
  · rw [if_neg hi]
    exact ⟨fun _ => Nat.le_of_not_lt hi, fun c z => (by cases z)⟩
theorem jr_revt {m : List Addr} {H : Hp} {cs : List C} {vs : List V} {a : Addr} (ht : SqT X.K H a vs) (rv : RVs X.K m H cs vs) : JRel X.K m H (.revt cs) (RT.ItvT X.K a vs.length) := by
  intro i m' h' H' e rl
  have ht' := e.tu _ _ ht
  have rv' := rv.ext e
  have hl := rv.length
  have at_ : ItV.at_ (.revt cs) i h' = if i < cs.length then (match cs[cs.length - 1 - i]? with
      | some c => some (some c)
      | none => none) else some none := rfl
  rw [at_]
  by_cases hi : i < cs.length
  · rw [if_pos hi]
    cases e1 : cs[cs.length - 1 - i]? with
    | none => exact ⟨fun z => (by cases z), fun c z => (by cases z)⟩
    | some c0 =>
      refine ⟨fun z => (by cases z), fun c z => ?_⟩
      cases z
      obtain ⟨w, w1, w2⟩ := rv'.get e1
      rw [hl] at w1
      refine ⟨⟨by rw [← hl]; exact hi, vs, w, ht', w1⟩, fun x H2 y => ?_⟩
      obtain ⟨rfl, y⟩ := y
      have := (y vs ht').symm.trans w1
      cases this
      exact ⟨m', Ext.refl, rl, w2⟩
  · rw [if_neg hi]
    exact ⟨fun _ => (by rw [← hl]; exact Nat.le_of_not_lt hi : vs.length ≤ i), fun c z => (by cases z)⟩
theorem jr_enl {m : List Addr} {H : Hp} {n : Nat} {a : Addr} (hm : m[n]? = some a) : JRel X.K m H (.enl n) (Ite X.K a) := by
  intro i m' h' H' e rl
  have hm' := e.pre _ _ hm
  obtain ⟨cs, vs, hc, hv, rv⟩ := rl.get hm'
  have at_ : ItV.at_ (.enl n) i h' = some (match cs[i]? with
      | some c => some (.tup [.int i, c])
      | none => none) := by
    show (match h'[n]? with
      | some cs => some (match cs[i]? with
        | some c => some (C.tup [.int i, c])
        | none => none)
      | none => none) = _
    rw [hc]
  rw [at_]
  cases e1 : cs[i]? with
  | none =>
    refine ⟨fun _ => ⟨vs, SqL.of hv, by rw [← rv.length]; exact List.getElem?_eq_none_iff.mp e1⟩, fun c z => (by cases z)⟩
  | some c0 =>
    refine ⟨fun z => (by cases z), fun c z => ?_⟩
    cases z
    obtain ⟨w, w1, w2⟩ := rv.get e1
    refine ⟨⟨vs, w, SqL.of hv, w1⟩, fun x H2 y => ?_⟩
    obtain ⟨T, x0, rfl, hT, rfl, y⟩ := y
    have := (y vs (SqL.of hv)).symm.trans w1
    cases this
    refine ⟨m', Ext.new hT, rl.new hT, tup_laid ?_ hT⟩
    exact ⟨.int i, [_], rfl, rfl, RVs.one w2⟩
theorem jr_ent {m : List Addr} {H : Hp} {cs : List C} {vs : List V} {a : Addr} (ht : SqT X.K H a vs) (rv : RVs X.K m H cs vs) : JRel X.K m H (.ent cs) (Iten X.K a vs.length) := by
  intro i m' h' H' e rl
  have ht' := e.tu _ _ ht
  have rv' := rv.ext e
  have hl := rv.length
  have at_ : ItV.at_ (.ent cs) i h' = some (match cs[i]? with
      | some c => some (.tup [.int i, c])
      | none => none) := rfl
  rw [at_]
  cases e1 : cs[i]? with
  | none =>
    refine ⟨fun _ => ⟨vs, ht', rfl, by rw [← hl]; exact List.getElem?_eq_none_iff.mp e1⟩, fun c z => (by cases z)⟩
  | some c0 =>
    refine ⟨fun z => (by cases z), fun c z => ?_⟩
    cases z
    obtain ⟨w, w1, w2⟩ := rv'.get e1
    refine ⟨⟨by rw [← hl]; exact (List.getElem?_eq_some_iff.mp e1).1, vs, w, ht', w1⟩, fun x H2 y => ?_⟩
    obtain ⟨T, x0, rfl, hT, rfl, y⟩ := y
    have := (y vs ht').symm.trans w1
    cases this
    refine ⟨m', Ext.new hT, rl.new hT, tup_laid ?_ hT⟩
    exact ⟨.int i, [_], rfl, rfl, RVs.one w2⟩
theorem fold_no {e : Expr} {env : Env} (h : notSet e = true) : ∀ x, foldedSetIterable e env x = pure x := fun x => by
  cases e <;> first | rfl | cases h
theorem pts_yes {W : WX} {t : T} (h : Pt.isYes t = true) : PTs X [] (tT et X.K W (T.ev call sub w none t)) := by
  cases t <;> try (cases h; done)
  exact ⟨fun pins s σ H Q I ⟨m, sl, hh, rl, rs, p⟩ => pts_nil.run pins s σ H Q I (p m H true Ext.refl rl rfl)⟩
end
section
variable {cf : Cfg} {et : ETab} {call : Nat → List C → Hc → R C} {sub : Nat → Str → Option Bool} {w : Nat} {k : Nat} {X : Cx} {W : WX}
mutual
theorem E.sound : ∀ (ir : E) (cf : Cfg) (X : Cx) (W : WX) (g : Good cf et call k X W) (e : Expr), mE ir cf e = true → PE X e (tE et X.K W (E.ev call sub w none ir))
  | .con c, cf, X, W, g, e, h => by
    cases e <;> try (cases h; done)
    rename_i kk j pos
    replace h : conIs kk c = true := h
    cases kk <;> cases c <;> try (cases h; done)
    · exact sE_const pe_non fun m H => rfl
    · rename_i b b'
      have : b = b' := beq_iff_eq.mp h
      subst this
      exact sE_const pe_bl fun m H => rfl
    · rename_i b b'
      have : b = b' := beq_iff_eq.mp h
      subst this
      exact sE_const pe_int fun m H => rfl
    · rename_i b b'
      have : b = b' := beq_iff_eq.mp h
      subst this
      exact sE_const pe_str fun m H => rfl
  | .var i, cf, X, W, g, e, h => by
    cases e <;> try (cases h; done)
    rename_i x pos
    obtain ⟨h, h4⟩ := two h
    obtain ⟨h, h3⟩ := two h
    obtain ⟨h1, h2⟩ := two h
    have hv : Vis X.env.scope x := by
      have q : ∀ y, X.env.scope.names.lookup y = cf.kind y := g.kind
      obtain h2 | h2 := Bool.or_eq_true_iff.mp h2
      · obtain h2 | h2 := Bool.or_eq_true_iff.mp h2
        · exact .inl ((q x).trans (beq_iff_eq.mp h2))
        · exact .inr (.inl ((q x).trans (beq_iff_eq.mp h2)))
      · exact .inr (.inr ((q x).trans (beq_iff_eq.mp h2)))
    exact sE_var (pe_var (by rw [g.N]; exact beq_iff_eq.mp h1) hv (noB h3) (noB h4))
  | .glob y c, cf, X, W, g, e, h => by
    cases e <;> try (cases h; done)
    rename_i x pos
    obtain ⟨h, h3⟩ := two h
    obtain ⟨h1, h2⟩ := two h
    obtain ⟨f1, f2, f3⟩ := g.gl h2
    obtain ⟨q, hq, hh⟩ := List.any_eq_true.mp h3
    obtain ⟨q1, q2⟩ := two hh
    obtain ⟨y', c'⟩ := q
    have e1 : y' = x := beq_iff_eq.mp q1
    subst e1
    have e2 : c' = c := by
      cases c' <;> cases c <;> first | (have := beq_iff_eq.mp q2; rw [this]) | cases q2
    subst e2
    obtain ⟨v, u, hm, r, rv⟩ := g.con _ _ hq
    exact sE_const (pe_glob f1 hm r f2) fun m H => rv m H
  | .bin o a b, cf, X, W, g, e, h => by
    cases e <;> try (cases h; done)
    rename_i l op r pos
    obtain ⟨h1, h2⟩ := two h
    obtain ⟨h2, h3⟩ := two h2
    have := of_decide_eq_true h1
    subst this
    exact sE_bin o (E.sound a cf X W g l h2) (E.sound b cf X W g r h3)
  | .neg a, cf, X, W, g, e, h => by
    cases e <;> try (cases h; done)
    rename_i op l pos
    obtain ⟨h1, h2⟩ := two h
    have := of_decide_eq_true h1
    subst this
    exact sE_neg (E.sound a cf X W g l h2)
  | .notv a, cf, X, W, g, e, h => by
    cases e <;> try (cases h; done)
    rename_i op l pos
    obtain ⟨h1, h2⟩ := two h
    have := of_decide_eq_true h1
    subst this
    exact sE_notv (E.sound a cf X W g l h2)
  | .cmp o a b, cf, X, W, g, e, h => by
    cases e <;> try (cases h; done)
    rename_i l ops rs pos
    match ops, rs, h with
    | [op], [r], h =>
      obtain ⟨h, h3⟩ := two h
      obtain ⟨h1, h2⟩ := two h
      obtain ⟨h3, h4⟩ := two h3
      have := of_decide_eq_true h1
      subst this
      exact sE_cmp o (by have := g.units; omega) (noB h2) (E.sound a cf X W g l h3) (E.sound b cf X W g r h4)
    | [], _, h => cases h
    | _ :: _ :: _, _, h => cases h
    | [_], [], h => cases h
    | [_], _ :: _ :: _, h => cases h
  | .chain o o' a b c, cf, X, W, g, e, h => by
    cases e <;> try (cases h; done)
    rename_i l ops rs pos
    match ops, rs, h with
    | [op, op'], [r, q], h =>
      obtain ⟨h, h4⟩ := two h
      obtain ⟨h, h3⟩ := two h
      obtain ⟨h1, h2⟩ := two h
      obtain ⟨h4, h5⟩ := two h4
      obtain ⟨h5, h6⟩ := two h5
      have := of_decide_eq_true h1
      subst this
      have := of_decide_eq_true h2
      subst this
      exact sE_chain o o' (by have := g.units; omega) (noB h3) (E.sound a cf X W g l h4) (E.sound b cf X W g r h5) (E.sound c cf X W g q h6)
    | [], _, h => cases h
    | [_], _, h => cases h
    | _ :: _ :: _ :: _, _, h => cases h
    | [_, _], [], h => cases h
    | [_, _], [_], h => cases h
    | [_, _], _ :: _ :: _ :: _, h => cases h
  | .andv a b, cf, X, W, g, e, h => by
    cases e <;> try (cases h; done)
    rename_i op l p
    match l, h with
    | [], h => cases h
    | x :: l, h =>
      obtain ⟨h1, h23⟩ := two h
      obtain ⟨h2, h3⟩ := two h23
      have := of_decide_eq_true h1
      subst this
      obtain ⟨y, r, rfl, hb⟩ := bool_tail (X := X) h3 fun e he => E.sound b cf X W g e he
      exact sE_and (E.sound a cf X W g x h2) hb
  | .orv a b, cf, X, W, g, e, h => by
    cases e <;> try (cases h; done)
    rename_i op l p
    match l, h with
    | [], h => cases h
    | x :: l, h =>
      obtain ⟨h1, h23⟩ := two h
      obtain ⟨h2, h3⟩ := two h23
      have := of_decide_eq_true h1
      subst this
      obtain ⟨y, r, rfl, hb⟩ := bool_tail (X := X) h3 fun e he => E.sound b cf X W g e he
      exact sE_or (E.sound a cf X W g x h2) hb
  | .ite t a b, cf, X, W, g, e, h => by
    cases e <;> try (cases h; done)
    rename_i c l r pos
    obtain ⟨h1, h2⟩ := two h
    obtain ⟨h2, h3⟩ := two h2
    exact sE_ite (T.sound t cf X W g c h1).1 (E.sound a cf X W g l h2) (E.sound b cf X W g r h3)
  | .tup es, cf, X, W, g, e, h => by
    cases e <;> try (cases h; done)
    rename_i l kk pos
    obtain ⟨h1, h2⟩ := two h
    exact sE_tup (Es.sound es cf X W g l h2) (of_decide_eq_true h1)
  | .lst es, cf, X, W, g, e, h => by
    cases e <;> try (cases h; done)
    rename_i l pos
    exact sE_lst (Es.sound es cf X W g l h)
  | .idx a i, cf, X, W, g, e, h => by
    cases e <;> try (cases h; done)
    rename_i l r pos
    obtain ⟨h1, h2⟩ := two h
    obtain ⟨h2, h3⟩ := two h2
    exact sE_idx (plain_ix h1) (E.sound a cf X W g l h2) (E.sound i cf X W g r h3)
  | .slc a lo hi, cf, X, W, g, e, h => by
    cases e <;> try (cases h; done)
    rename_i l r pos
    cases r <;> try (cases h; done)
    rename_i lo' hi' st p2
    obtain ⟨h1, h2⟩ := two h
    obtain ⟨h2, h3⟩ := two h2
    obtain ⟨h3, h4⟩ := two h3
    cases st with
    | some _ => cases h1
    | none => exact sE_slc (E.sound a cf X W g l h2) (Oe.sound lo cf X W g lo' h3) (Oe.sound hi cf X W g hi' h4)
  | .call f es, cf, X, W, g, e, h => by
    cases e <;> try (cases h; done)
    rename_i fn args kws pos
    cases fn <;> try (cases h; done)
    rename_i x p
    obtain ⟨h, h4⟩ := two h
    obtain ⟨h, h3⟩ := two h
    obtain ⟨h1, h2⟩ := two h
    obtain ⟨ps, hf⟩ := fn_get h3
    cases kws with
    | cons _ _ => cases h1
    | nil =>
      cases es with
      | nil =>
        cases args with
        | cons _ _ => cases h4
        | nil => exact sE_call0 g hf h2
      | cons a es =>
        cases args with
        | nil => cases h4
        | cons e' l =>
          obtain ⟨q1, q2⟩ := two h4
          obtain ⟨q2, q3⟩ := two q2
          exact sE_call1 g hf h2 (Es.sound (.cons a es) cf X W g (e' :: l) h4) (star_of q1) (no_any q3)
  | .callk f es ks perm, cf, X, W, g, e, h => by
    cases e <;> try (cases h; done)
    rename_i fn args kws pos
    cases fn <;> try (cases h; done)
    rename_i x p
    obtain ⟨h, h5⟩ := two h
    obtain ⟨h, h4⟩ := two h
    obtain ⟨h, h3⟩ := two h
    obtain ⟨h1, h2⟩ := two h
    obtain ⟨h5, h6⟩ := two h5
    obtain ⟨ps, hf⟩ := fn_get h2
    obtain ⟨q, hq, hh⟩ := List.any_eq_true.mp h3
    have := of_decide_eq_true hh
    subst this
    have h4 := of_decide_eq_true h4
    have hk := Es.soundK ks cf X W g kws h6
    have l2 := len_ks h6
    have l1 := len_es h5
    cases es with
    | nil =>
      cases args with
      | cons _ _ => cases h5
      | nil =>
        have := sE_callk0 (pos := pos) (p := p) g hf h1 hq h4 hk
        rw [l2] at this
        exact this
    | cons a es =>
      cases args with
      | nil => cases h5
      | cons e' l =>
        obtain ⟨q1, q2⟩ := two h5
        obtain ⟨q2, q3⟩ := two q2
        have := sE_callk1 (pos := pos) (p := p) g hf h1 hq h4 (Es.sound (.cons a es) cf X W g (e' :: l) h5) hk (star_of q1) (no_any q3)
        rw [l2, l1] at this
        exact this
  | .bi b es, cf, X, W, g, e, h => by
    cases e <;> try (cases h; done)
    rename_i fn args kws pos
    cases fn <;> try (cases h; done)
    rename_i x p
    obtain ⟨h, h5⟩ := two h
    obtain ⟨h, h4⟩ := two h
    obtain ⟨h, h3⟩ := two h
    obtain ⟨h1, h2⟩ := two h
    cases kws with
    | cons _ _ => cases h1
    | nil =>
      cases args with
      | nil => cases h4
      | cons e' l =>
        cases es with
        | nil => cases h5
        | cons a es =>
          obtain ⟨q1, q2⟩ := two h5
          obtain ⟨q2, q3⟩ := two q2
          exact sE_bi_all g (of_decide_eq_true h2) h3 (Es.sound (.cons a es) cf X W g (e' :: l) h5) (star_of q1) (no_any q3)
  | .isi a t, cf, X, W, g, e, h => by
    cases e <;> try (cases h; done)
    rename_i fn args kws pos
    cases fn <;> try (cases h; done)
    rename_i f p
    match args, h with
    | [], h => cases h
    | [_], h => cases h
    | _ :: _ :: _ :: _, h => cases h
    | [l, r], h =>
      cases r <;> try (cases h; done)
      rename_i x p1
      obtain ⟨h, h7⟩ := two h
      obtain ⟨h, h6⟩ := two h
      obtain ⟨h, h5⟩ := two h
      obtain ⟨h, h4⟩ := two h
      obtain ⟨h, h3⟩ := two h
      obtain ⟨h1, h2⟩ := two h
      have := of_decide_eq_true h2
      subst this
      have := of_decide_eq_true h4
      subst this
      obtain ⟨f1, f2, f3, f4⟩ := g.free h3
      obtain ⟨g1, g2, g3, g4⟩ := g.free h5
      cases kws with
      | cons _ _ => cases h1
      | nil => exact sE_isi f1 f2 g1 g2 (boot_ty t) g4 g3 (star_of h6) (by rfl) (E.sound a cf X W g l h7)
  | .pop a, cf, X, W, g, e, h => by
    cases e <;> try (cases h; done)
    rename_i fn args kws cpos
    cases fn <;> try (cases h; done)
    rename_i o nm apos
    obtain ⟨h, h6⟩ := two h
    obtain ⟨h, h5⟩ := two h
    obtain ⟨h, h4⟩ := two h
    obtain ⟨h, h3⟩ := two h
    obtain ⟨h1, h2⟩ := two h
    cases args with
    | cons _ _ => cases h1
    | nil =>
      cases kws with
      | cons _ _ => cases h2
      | nil =>
        have := of_decide_eq_true h3
        subst this
        exact sE_pop (base_of h4) h5 (E.sound a cf X W g o h6)
  | .comp a p it t, cf, X, W, g, e, h => by
    cases e <;> try (cases h; done)
    rename_i elt gens scope pos
    match gens, h with
    | [], h => cases h
    | _ :: _ :: _, h => cases h
    | [⟨tg, iter, ifs, asy⟩], h =>
      obtain ⟨h, h8⟩ := two h
      obtain ⟨h, h7⟩ := two h
      obtain ⟨h, h6⟩ := two h
      obtain ⟨h, h5⟩ := two h
      obtain ⟨h, h4⟩ := two h
      obtain ⟨h, h3⟩ := two h
      obtain ⟨h1, h2⟩ := two h
      have := of_decide_eq_true h1
      subst this
      obtain ⟨ok, ev⟩ := blk_ok g h3
      have gb := fun (s : Shared) (H : Hp) (C' : Addr) (cl : List (Str × Addr)) (fp : List Addr) => good_blk g ok.kind s H C' cl fp
      have hT : ∀ (s : Shared) (H : Hp) (C' : Addr) (cl : List (Str × Addr)) (fp : List Addr), PTs (X.blk s H scope (compEnvC scope cl C' X.env) fp) ifs (tT et X.K NoX (T.ev call sub w none t)) := fun s H C' cl fp => by
        cases ifs with
        | nil => exact pts_yes h7
        | cons c r =>
          cases r with
          | nil => exact pts_one (T.sound t _ _ _ (gb s H C' cl fp) c h7).1
          | cons _ _ => cases h7
      have hcomp := sE_comp (ifs := ifs) (et := et) (W := W) (w := w) (pos := pos) (fi := It.ev call sub w none it) (fg := Pt.put call sub w none p) (ft := T.ev call sub w none t) (fe := E.ev call sub w none a) g.calm (by rw [g.N]; exact g.nd) (It.sound it cf X W g tg iter (two h5).1 (two h5).2) ok
        (fun s H C' cl fp => by rw [ev]; exact flat_ok (gb s H C' cl fp) p tg h4 (fun _ hi => hi) h6)
        hT
        (fun s H C' cl fp => E.sound a _ _ _ (gb s H C' cl fp) elt h8) (fold_no h2)
      rw [ev] at hcomp
      exact hcomp
  | .revs a, cf, X, W, g, e, h => by
    cases e <;> try (cases h; done)
    rename_i l r pos
    cases r <;> try (cases h; done)
    rename_i lo hi st p3
    have h4 := (two h).2
    replace h := (two h).1
    have h3 := (two h).2
    replace h := (two h).1
    have h1 := (two h).1
    have h2 := (two h).2
    clear h
    cases lo with
    | some _ => cases h1
    | none =>
      cases hi with
      | some _ => cases h2
      | none =>
        cases st with
        | none => cases h3
        | some st =>
          cases st <;> try (cases h3; done)
          rename_i op c p2
          have h5 := (two h3).1
          replace h3 := (two h3).2
          have := of_decide_eq_true h5
          subst this
          cases c <;> try (cases h3; done)
          rename_i k kk p1
          cases k <;> try (cases h3; done)
          rename_i i
          have : i = 1 := beq_iff_eq.mp h3
          subst this
          exact sE_revs (E.sound a cf X W g l h4)
  | .excf _, cf, X, W, g, e, h => by cases h
  | .excis _, cf, X, W, g, e, h => by cases h
theorem T.sound : ∀ (ir : T) (cf : Cfg) (X : Cx) (W : WX) (g : Good cf et call k X W) (e : Expr), mT ir cf e = true → PTW X e (tT et X.K W (T.ev call sub w none ir))
  | .tr a, cf, X, W, g, e, h => by
    obtain ⟨h1, h2⟩ := two h
    refine ⟨sT_tr (truth_he h1 _) (E.sound a cf X W g e h2), fun op l p z => ?_⟩
    subst z
    cases h1
  | .cmp o a b, cf, X, W, g, e, h => by
    cases e <;> try (cases h; done)
    rename_i l ops rs pos
    match ops, rs, h with
    | [op], [r], h =>
      obtain ⟨h, h3⟩ := two h
      obtain ⟨h1, h2⟩ := two h
      obtain ⟨h3, h4⟩ := two h3
      have := of_decide_eq_true h1
      subst this
      exact ⟨sT_cmp o (by have := g.units; omega) (noB h2) (E.sound a cf X W g l h3) (E.sound b cf X W g r h4), fun op l p z => by cases z⟩
    | [], _, h => cases h
    | _ :: _ :: _, _, h => cases h
    | [_], [], h => cases h
    | [_], _ :: _ :: _, h => cases h
  | .chn o o' a b c, cf, X, W, g, e, h => by
    cases e <;> try (cases h; done)
    rename_i l ops rs pos
    match ops, rs, h with
    | [op, op'], [r, q], h =>
      obtain ⟨h, h4⟩ := two h
      obtain ⟨h, h3⟩ := two h
      obtain ⟨h1, h2⟩ := two h
      obtain ⟨h4, h5⟩ := two h4
      obtain ⟨h5, h6⟩ := two h5
      have := of_decide_eq_true h1
      subst this
      have := of_decide_eq_true h2
      subst this
      exact ⟨sT_chain o o' (by have := g.units; omega) (noB h3) (E.sound a cf X W g l h4) (E.sound b cf X W g r h5) (E.sound c cf X W g q h6), fun op l p z => by cases z⟩
    | [], _, h => cases h
    | [_], _, h => cases h
    | _ :: _ :: _ :: _, _, h => cases h
    | [_, _], [], h => cases h
    | [_, _], [_], h => cases h
    | [_, _], _ :: _ :: _ :: _, h => cases h
  | .and a b, cf, X, W, g, e, h => by
    cases e <;> try (cases h; done)
    rename_i op l p
    match l, h with
    | [], h => cases h
    | x :: l, h =>
      obtain ⟨h1, h23⟩ := two h
      obtain ⟨h2, h3⟩ := two h23
      have := of_decide_eq_true h1
      subst this
      obtain ⟨y, r, rfl, hb⟩ := test_tail (X := X) h3 fun e he => T.sound b cf X W g e he
      have q := sW_and (T.sound a cf X W g x h2).1 hb
      exact ⟨q.pt, fun _ _ _ _ => q⟩
  | .or a b, cf, X, W, g, e, h => by
    cases e <;> try (cases h; done)
    rename_i op l p
    match l, h with
    | [], h => cases h
    | x :: l, h =>
      obtain ⟨h1, h23⟩ := two h
      obtain ⟨h2, h3⟩ := two h23
      have := of_decide_eq_true h1
      subst this
      obtain ⟨y, r, rfl, hb⟩ := test_tail (X := X) h3 fun e he => T.sound b cf X W g e he
      have q := sW_or (T.sound a cf X W g x h2).1 hb
      exact ⟨q.pt, fun _ _ _ _ => q⟩
  | .not a, cf, X, W, g, e, h => by
    cases e <;> try (cases h; done)
    rename_i op l pos
    obtain ⟨h1, h2⟩ := two h
    have := of_decide_eq_true h1
    subst this
    exact ⟨sT_not (T.sound a cf X W g l h2).1, fun op l p z => by cases z⟩
  | .yes, cf, X, W, g, e, h => by cases h
theorem Es.sound : ∀ (ir : Es) (cf : Cfg) (X : Cx) (W : WX) (g : Good cf et call k X W) (l : List Expr), mEs ir cf l = true → PA X l (tA et X.K W (Es.ev call sub w none ir))
  | .nil, cf, X, W, g, l, h => by
    cases l with
    | nil => exact sA_nil
    | cons _ _ => cases h
  | .cons a es, cf, X, W, g, l, h => by
    cases l with
    | nil => cases h
    | cons x l =>
      obtain ⟨h1, h2⟩ := two h
      obtain ⟨h2, h3⟩ := two h2
      exact sA_cons (star_of h1) (E.sound a cf X W g x h2) (Es.sound es cf X W g l h3)
theorem Es.soundK : ∀ (ir : Es) (cf : Cfg) (X : Cx) (W : WX) (g : Good cf et call k X W) (l : List Keyword), mKs ir cf l = true → PK X l (tA et X.K W (Es.ev call sub w none ir))
  | .nil, cf, X, W, g, l, h => by
    cases l with
    | nil => exact sK_nil
    | cons _ _ => cases h
  | .cons a es, cf, X, W, g, l, h => by
    cases l with
    | nil => cases h
    | cons x l =>
      obtain ⟨h1, h2⟩ := two h
      obtain ⟨nm, v, kp⟩ := x
      exact sK_cons (E.sound a cf X W g v h1) (Es.soundK es cf X W g l h2)
theorem Oe.sound : ∀ (ir : Oe) (cf : Cfg) (X : Cx) (W : WX) (g : Good cf et call k X W) (l : Option Expr), mO ir cf l = true → PO X l (tO et X.K W (Oe.ev call sub w none ir))
  | .none, cf, X, W, g, l, h => by
    cases l with
    | none => exact sO_none
    | some _ => cases h
  | .some a, cf, X, W, g, l, h => by
    cases l with
    | none => cases h
    | some x => exact sO_some (E.sound a cf X W g x h)
theorem Pt.sound : ∀ (p : Pt) (cf : Cfg) (X : Cx) (W : WX) (g : Good cf et call k X W) (e : Expr), mP p cf e = true → PG X e (tG et X.K (Pt.put call sub w none p))
  | .v i, cf, X, W, g, e, h => by
    cases e <;> try (cases h; done)
    rename_i x pos
    obtain ⟨q1, q2, q3, q4⟩ := g.loc h
    refine ⟨fun pins s σ H v u Q I r ⟨m, sl, hh, c, rl, rs, rv, p⟩ => (pg_name q4 q1 q2 q3).run pins s σ H v u Q I r ?_⟩
    exact p m H (σ.set i (some v)) Ext.refl rl (rs.set i rv)
  | .sub o i, cf, X, W, g, e, h => by
    cases e <;> try (cases h; done)
    rename_i l r pos
    obtain ⟨h1, h2⟩ := two h
    obtain ⟨h2, h3⟩ := two h2
    have hs : ∀ v, assign (.Subscript l r pos) X.env v = (do
      let ov ← holding [v] (eval l X.env)
      let iv ← holding [v, ov] (eval r X.env)
      standAt pos
      holding [v, ov, iv] (setItem ov iv v)
      release [v, ov, iv] []) := fun v => by cases r <;> first | rfl | cases h1
    refine ⟨fun pins s σ H v u Q I r' ⟨m, sl, hh, c, rl, rs, rv, p⟩ => (pg_sub (E.sound o cf X W g l h2) (E.sound i cf X W g r h3) set_list hs).run pins s σ H v u Q I r' ?_⟩
    have p : Post et X.K (fun _ _ _ => False) m H (relS X.K) Q (((E.ev call sub w none o sl hh).noerr).bind fun x h1 => ((E.ev call sub w none i sl h1).noerr).bind fun y h2 => (setitem x y c h2).bind fun _ h3 => .ok sl h3) := p
    refine ⟨m, sl, hh, rl, rs, Post.noerr (Post.bind p fun x hx e1 m1 H1 v1 x1 rl1 rv1 p1 => ?_)⟩
    refine ⟨m1, sl, hx, rl1, rs.ext x1, Post.noerr (Post.bind p1 fun y hy e2 m2 H2 v2 x2 rl2 rv2 p2 => ?_)⟩
    refine setitem_ok (et := et) (W := fun _ _ _ => False) m2 H2 hy x y c v1 v2 v _ rl2 (RV.ext x2 rv1) rv2 (RV.ext x2 (RV.ext x1 rv)) ?_
    exact Post.bind p2 fun _ hz e3 m3 H3 _ x3 rl3 _ p3 => p3 m3 H3 σ Ext.refl rl3 (((rs.ext x1).ext x2).ext x3)
  | .tup ps, cf, X, W, g, e, h => by
    cases e <;> try (cases h; done)
    rename_i l kk pos
    have ih := Pts.sound ps cf X W g l h
    obtain ⟨q1, q2⟩ := asg_len (env := X.env) h
    refine ⟨fun pins s σ H v u Q I r ⟨m, sl, hh, c, rl, rs, rv, p⟩ => (pg_tup (n := l.length) g.calm ih q1 q2).run pins s σ H v u Q I r ?_⟩
    cases c <;> try (exact False.elim p)
    rename_i cs
    obtain ⟨a, vs, rfl, e2, e3⟩ := rv
    have p : Post et X.K (fun _ _ _ => False) m H (relS X.K) Q (if cs.length = ps.len then Pts.put call sub w none ps cs sl hh else .bad) := p
    split at p
    · rename_i hl
      exact ⟨a, vs, rfl, e2, by rw [← e3.length, len_ps h]; exact hl, m, sl, hh, cs, rl, rs, e3, p⟩
    · exact p.elim
theorem Pts.sound : ∀ (p : Pts) (cf : Cfg) (X : Cx) (W : WX) (g : Good cf et call k X W) (l : List Expr), mPs p cf l = true → PGs X l (tGs et X.K (Pts.put call sub w none p))
  | .nil, cf, X, W, g, l, h => by
    cases l with
    | cons _ _ => cases h
    | nil =>
      refine ⟨fun pins s σ H vs us Q I r ⟨m, sl, hh, cs, rl, rs, rv, p⟩ => pgs_nil.run pins s σ H vs us Q I r ?_⟩
      cases cs with
      | nil =>
        cases rv
        exact ⟨rfl, p m H σ Ext.refl rl rs⟩
      | cons _ _ => exact False.elim p
  | .cons pt ps, cf, X, W, g, l, h => by
    cases l with
    | nil => cases h
    | cons x l =>
      obtain ⟨h1, h2⟩ := two h
      obtain ⟨h2, h3⟩ := two h2
      have hp := Pt.sound pt cf X W g x h2
      have hps := Pts.sound ps cf X W g l h3
      refine ⟨fun pins s σ H vs us Q I r ⟨m, sl, hh, cs, rl, rs, rv, p⟩ => (pgs_cons hp hps (by rw [asg_of h1]; rfl)).run pins s σ H vs us Q I r ?_⟩
      cases cs with
      | nil => exact False.elim p
      | cons c cs =>
        obtain ⟨v, t, rfl, r1, r2⟩ := rv
        have p : Post et X.K (fun _ _ _ => False) m H (relS X.K) Q ((Pt.put call sub w none pt c sl hh).bind fun sl1 h1 => Pts.put call sub w none ps cs sl1 h1) := p
        exact ⟨v, t, rfl, m, sl, hh, c, rl, rs, r1, Post.bind p fun sl1 h1' e1 m1 H1 σ1 x1 rl1 rs1 p1 => ⟨m1, sl1, h1', cs, rl1, rs1, r2.ext x1, p1⟩⟩
theorem It.sound : ∀ (it : Sh.It) (cf : Cfg) (X : Cx) (W : WX) (g : Good cf et call k X W) (tg e : Expr), mI it cf e = true → okTg it tg = true → PI X tg e (tI et X.K W (It.ev call sub w none it))
  | .seq a, cf, X, W, g, tg, e, h, ht => by
    refine ⟨fun pins s σ H R I ⟨m, sl, hh, rl, rs, p⟩ => (pi_seq (E.sound a cf X W g e h)).run pins s σ H R I ⟨m, sl, hh, rl, rs, ?_⟩⟩
    refine Post.bind (f := fun x h1 => show Sh.R ItV from match x with
      | .ref n => .ok (ItV.lst n) h1
      | .tup cs => .ok (ItV.tre cs) h1
      | _ => .bad) p fun x h1 e1 m1 H1 v x1 rl1 rv1 p1 => ?_
    cases x with
    | ref n =>
      obtain ⟨a, q1, rfl⟩ := rv1
      obtain ⟨cs, vs, _, hv, _⟩ := rl1.get q1
      exact .inl ⟨a, rfl, ⟨vs, SqL.of hv⟩, p1 m1 H1 _ Ext.refl rl1 (jr_lst q1)⟩
    | tup cs =>
      obtain ⟨a, vs, rfl, e2, e3⟩ := rv1
      exact .inr ⟨a, rfl, ⟨vs, e2⟩, p1 m1 H1 _ Ext.refl rl1 (jr_tre e2 e3)⟩
    | non => exact False.elim p1
    | bl _ => exact False.elim p1
    | int _ => exact False.elim p1
    | str _ => exact False.elim p1
    | frz _ => exact False.elim p1
    | rep _ => exact False.elim p1
  | .rng1 a, cf, X, W, g, tg, e, h, ht => by
    cases e <;> try (cases h; done)
    rename_i fn args kws pos
    cases fn <;> try (cases h; done)
    rename_i x p
    match args, h with
    | [], h => cases h
    | _ :: _ :: _, h => cases h
    | [l], h =>
      obtain ⟨h, h5⟩ := two h
      obtain ⟨h, h4⟩ := two h
      obtain ⟨h, h3⟩ := two h
      obtain ⟨h1, h2⟩ := two h
      have := of_decide_eq_true h2
      subst this
      obtain ⟨f1, f2, f3, f4⟩ := g.free h3
      cases kws with
      | cons _ _ => cases h1
      | nil =>
        have hA : PA X [l] (tCons (tE et X.K W (E.ev call sub w none a)) tNil) := pa_cons (E.sound a cf X W g l h5) pa_nil (star_of h4)
        refine ⟨fun pins s σ H R I ⟨m, sl, hh, rl, rs, p⟩ => (pi_range1 f1 f2 hA (star_of h4)).run pins s σ H R I ⟨m, sl, hh, rl, rs, ?_⟩⟩
        refine Post.bind (f := fun x h1 => show Sh.R ItV from match x with
          | .int j => if -1000000000 < j ∧ j < 1000000000 then .ok (ItV.rng 0 j.toNat) h1 else .bad
          | _ => .bad) p fun x h1 e1 m1 H1 v x1 rl1 rv1 p1 => ?_
        cases x with
        | int j =>
          cases rv1
          dsimp only at p1
          split at p1
          · rename_i hj
            exact ⟨j, rfl, by omega, by omega, p1 m1 H1 _ Ext.refl rl1 jr_rng⟩
          · exact False.elim p1
        | non => exact False.elim p1
        | bl _ => exact False.elim p1
        | str _ => exact False.elim p1
        | tup _ => exact False.elim p1
        | ref _ => exact False.elim p1
        | frz _ => exact False.elim p1
        | rep _ => exact False.elim p1
  | .rng2 a b, cf, X, W, g, tg, e, h, ht => by
    cases e <;> try (cases h; done)
    rename_i fn args kws pos
    cases fn <;> try (cases h; done)
    rename_i x p
    match args, h with
    | [], h => cases h
    | [_], h => cases h
    | _ :: _ :: _ :: _, h => cases h
    | [l, r], h =>
      obtain ⟨h, h6⟩ := two h
      obtain ⟨h, h5⟩ := two h
      obtain ⟨h, h4⟩ := two h
      obtain ⟨h, h3⟩ := two h
      obtain ⟨h1, h2⟩ := two h
      obtain ⟨h6, h7⟩ := two h6
      have := of_decide_eq_true h2
      subst this
      obtain ⟨f1, f2, f3, f4⟩ := g.free h3
      cases kws with
      | cons _ _ => cases h1
      | nil =>
        have hA : PA X [l, r] (tCons (tE et X.K W (E.ev call sub w none a)) (tCons (tE et X.K W (E.ev call sub w none b)) tNil)) := pa_cons (E.sound a cf X W g l h6) (pa_cons (E.sound b cf X W g r h7) pa_nil (star_of h5)) (star_of h4)
        refine ⟨fun pins s σ H R I ⟨m, sl, hh, rl, rs, p⟩ => (pi_range2 f1 f2 hA (by rw [star_of h4, star_of h5]; rfl) (star_of h5)).run pins s σ H R I ⟨m, sl, hh, rl, rs, ?_⟩⟩
        refine Post.bind (f := fun x h1 => (E.ev call sub w none b sl h1).bind fun y h2 => match x, y with
          | .int i, .int j => if -1000000 < i ∧ i < 1000000 ∧ -1000000 < j ∧ j < 1000000 then .ok (ItV.rng i (j - i).toNat) h2 else .bad
          | _, _ => .bad) p fun x h1 e1 m1 H1 v x1 rl1 rv1 p1 => ?_
        refine ⟨m1, sl, h1, rl1, rs.ext x1, Post.bind p1 fun y h2 e2 m2 H2 u x2 rl2 rv2 p2 => ?_⟩
        have rv1' := RV.ext x2 rv1
        cases x <;> cases y <;> try (exact False.elim p2)
        rename_i i j
        cases rv1'
        cases rv2
        dsimp only at p2
        split at p2
        · rename_i hj
          exact ⟨i, j, rfl, ⟨by omega, by omega, by omega, by omega⟩, p2 m2 H2 _ Ext.refl rl2 jr_rng⟩
        · exact False.elim p2
  | .rng3 _ _ _, cf, X, W, g, tg, e, h, ht => by cases h
  | .enum a, cf, X, W, g, tg, e, h, ht => by
    cases tg <;> try (cases ht; done)
    cases e <;> try (cases h; done)
    rename_i fn args kws pos
    cases fn <;> try (cases h; done)
    rename_i x p
    match args, h with
    | [], h => cases h
    | _ :: _ :: _, h => cases h
    | [l], h =>
      obtain ⟨h, h5⟩ := two h
      obtain ⟨h, h4⟩ := two h
      obtain ⟨h, h3⟩ := two h
      obtain ⟨h1, h2⟩ := two h
      have := of_decide_eq_true h2
      subst this
      obtain ⟨f1, f2, f3, f4⟩ := g.free h3
      cases kws with
      | cons _ _ => cases h1
      | nil =>
        refine ⟨fun pins s σ H R I ⟨m, sl, hh, rl, rs, p⟩ => (pi_enA f1 f2 (E.sound a cf X W g l h5) (star_of h4)).run pins s σ H R I ⟨m, sl, hh, rl, rs, ?_⟩⟩
        refine Post.bind (f := fun x h1 => show Sh.R ItV from match x with
          | .ref n => .ok (ItV.enl n) h1
          | .tup cs => .ok (ItV.ent cs) h1
          | _ => .bad) p fun x h1 e1 m1 H1 v x1 rl1 rv1 p1 => ?_
        cases x with
        | ref n =>
          obtain ⟨a, q1, rfl⟩ := rv1
          obtain ⟨cs, vs, e2, hv, q3⟩ := rl1.get q1
          exact ⟨a, vs, rfl, .inl ⟨SqL.of hv, p1 m1 H1 _ Ext.refl rl1 (jr_enl q1)⟩⟩
        | tup cs =>
          obtain ⟨a, vs, rfl, e2, e3⟩ := rv1
          exact ⟨a, vs, rfl, .inr ⟨e2, p1 m1 H1 _ Ext.refl rl1 (jr_ent e2 e3)⟩⟩
        | non => exact False.elim p1
        | bl _ => exact False.elim p1
        | int _ => exact False.elim p1
        | str _ => exact False.elim p1
        | frz _ => exact False.elim p1
        | rep _ => exact False.elim p1
  | .zip _ _, cf, X, W, g, tg, e, h, ht => by cases h
  | .rev a, cf, X, W, g, tg, e, h, ht => by
    cases e <;> try (cases h; done)
    rename_i fn args kws pos
    cases fn <;> try (cases h; done)
    rename_i x p
    match args, h with
    | [], h => cases h
    | _ :: _ :: _, h => cases h
    | [l], h =>
      obtain ⟨h, h5⟩ := two h
      obtain ⟨h, h4⟩ := two h
      obtain ⟨h, h3⟩ := two h
      obtain ⟨h1, h2⟩ := two h
      have := of_decide_eq_true h2
      subst this
      obtain ⟨f1, f2, f3, f4⟩ := g.free h3
      cases kws with
      | cons _ _ => cases h1
      | nil =>
        refine ⟨fun pins s σ H R I ⟨m, sl, hh, rl, rs, p⟩ => (RT.pi_revA f1 f2 (E.sound a cf X W g l h5) (star_of h4)).run pins s σ H R I ⟨m, sl, hh, rl, rs, ?_⟩⟩
        refine Post.bind (f := fun x h1 => show Sh.R ItV from match x with
          | .ref n => (match h1[n]? with
            | some cs => .ok (ItV.revl n cs.length) h1
            | none => .bad)
          | .tup cs => .ok (ItV.revt cs) h1
          | _ => .bad) p fun x h1 e1 m1 H1 v x1 rl1 rv1 p1 => ?_
        cases x with
        | ref n =>
          obtain ⟨a, q1, rfl⟩ := rv1
          obtain ⟨cs, vs, e2, hv, q3⟩ := rl1.get q1
          dsimp only at p1
          rw [e2] at p1
          dsimp only at p1
          rw [q3.length] at p1
          exact ⟨a, vs, rfl, .inl ⟨SqL.of hv, p1 m1 H1 _ Ext.refl rl1 (jr_revl q1)⟩⟩
        | tup cs =>
          obtain ⟨a, vs, rfl, e2, e3⟩ := rv1
          exact ⟨a, vs, rfl, .inr ⟨e2, p1 m1 H1 _ Ext.refl rl1 (jr_revt e2 e3)⟩⟩
        | non => exact False.elim p1
        | bl _ => exact False.elim p1
        | int _ => exact False.elim p1
        | str _ => exact False.elim p1
        | frz _ => exact False.elim p1
        | rep _ => exact False.elim p1
  | .revr _, cf, X, W, g, tg, e, h, ht => by cases h
end
end
end Sh
set_option Elab.async false
set_option linter.all false
set_option autoImplicit false
set_option maxRecDepth 100000
set_option maxHeartbeats 8000000
/-! Sh, part J: what is walked; loops. -/
namespace Sh
open PySem PySem.Spec PyProof.Rows L2

section
variable {cf : Cfg} {et : ETab} {call : Nat → List C → Hc → R C} {sub : Nat → Str → Option Bool} {w : Nat} {k : Nat} {X : Cx} {W : WX}
/-! ### loops -/
theorem sS_while {c : Expr} {body : List Stmt} {pos : Pos} {ft : Sl → Hc → R Bool} {fb : Sl → Hc → RS'} (hp : PassesOwn (model X.prog X.w) X.A X.env X.xe) (hc : PT X c (tT et X.K W ft)) (hb : PSs X body (tS et X.K W fb)) :
    PS X (.While c body [] pos) (tS et X.K W fun sl h => whileF ft fb w sl h) := by
  refine (ps_while hp hc hb).imp fun D σ H ⟨m, sl, h, rl, rs, p⟩ => ?_
  refine ⟨fun n σ H => ∃ m sl h, Rl X.K m h H ∧ RS X.K m H sl σ ∧ PostS et X.K W D m H (whileF ft fb n sl h), ⟨w, m, sl, h, rl, rs, p⟩, ?_⟩
  rintro n σ H ⟨m, sl, h, rl, rs, p⟩
  cases n with
  | zero => exact False.elim p
  | succ n =>
    have p : PostS et X.K W D m H ((ft sl h).th sl fun k h1 => if k then
      (match fb sl h1 with
        | .nx sl2 h2 => whileF ft fb n sl2 h2
        | .ct sl2 h2 => whileF ft fb n sl2 h2
        | .bk sl2 h2 => .nx sl2 h2
        | r => r)
      else .nx sl h1) := p
    refine ⟨m, sl, h, rl, rs, PostS.th p rs fun k h1 e1 m1 H1 v x1 rl1 rv1 p1 => ?_⟩
    cases rv1
    cases k with
    | false =>
      rw [if_neg Bool.false_ne_true]
      exact p1 m1 H1 σ Ext.refl rl1 (rs.ext x1)
    | true =>
      rw [if_pos rfl]
      have p1 : PostS et X.K W D m1 H1 (match fb sl h1 with
        | .nx sl2 h2 => whileF ft fb n sl2 h2
        | .ct sl2 h2 => whileF ft fb n sl2 h2
        | .bk sl2 h2 => .nx sl2 h2
        | r => r) := p1
      refine ⟨fun σ' H' => ∃ m sl h, Rl X.K m h H' ∧ RS X.K m H' sl σ' ∧ PostS et X.K W D m H' (whileF ft fb n sl h), fun σ' H' q => ⟨n, Nat.lt_succ_self n, q⟩, m1, sl, h1, rl1, rs.ext x1, ?_⟩
      cases q : fb sl h1 with
      | nx sl2 h2 => rw [q] at p1; exact fun m2 H2 σ2 x2 rl2 rs2 => ⟨m2, sl2, h2, rl2, rs2, PostS.ext p1 x2⟩
      | ct sl2 h2 => rw [q] at p1; exact fun m2 H2 σ2 x2 rl2 rs2 => ⟨m2, sl2, h2, rl2, rs2, PostS.ext p1 x2⟩
      | bk sl2 h2 => rw [q] at p1; exact p1
      | ret c h2 => rw [q] at p1; exact p1
      | err k xs sl2 h2 => rw [q] at p1; exact p1
      | bad => rw [q] at p1; exact p1
theorem sS_for {tg iter : Expr} {body : List Stmt} {pos : Pos} {fi : Sl → Hc → R ItV} {fg : C → Sl → Hc → R Sl} {fb : Sl → Hc → RS'} (hp : PassesOwn (model X.prog X.w) X.A X.env X.xe) (hcalm : X.calm = true) (hi : PI X tg iter (tI et X.K W fi)) (hg : PG X tg (tG et X.K fg)) (hb : PSs X body (tS et X.K W fb))
    (hs : ∀ x, foldedSetIterable iter X.env x = pure x) : PS X (.For tg iter body [] pos) (tS et X.K W fun sl h => (fi sl h).th sl fun v h1 => forF v fg fb w 0 sl h1) := by
  refine (ps_for hp hcalm hi hg hb hs).imp fun D σ H ⟨m, sl, h, rl, rs, p⟩ => ?_
  refine ⟨m, sl, h, rl, rs, PostS.th p rs fun it h1 e1 m1 H1 J x1 rl1 j1 p1 => ?_⟩
  refine ⟨fun i n σ H => ∃ m sl h, Rl X.K m h H ∧ RS X.K m H sl σ ∧ JRel X.K m H it J ∧ PostS et X.K W D m H (forF it fg fb n i sl h), ⟨w, m1, sl, h1, rl1, rs.ext x1, j1, p1⟩, ?_⟩
  rintro i n σ H ⟨m, sl, h, rl, rs, j, p⟩
  cases n with
  | zero => exact False.elim p
  | succ n =>
    have p : PostS et X.K W D m H (match it.at_ i h with
      | none => .bad
      | some none => .nx sl h
      | some (some c) => (fg c sl h).noerr.th sl fun sl1 h1 => match fb sl1 h1 with
        | .nx sl2 h2 => forF it fg fb n (i + 1) sl2 h2
        | .ct sl2 h2 => forF it fg fb n (i + 1) sl2 h2
        | .bk sl2 h2 => .nx sl2 h2
        | r => r) := p
    obtain ⟨j1, j2⟩ := j i m h H Ext.refl rl
    cases q : it.at_ i h with
    | none => rw [q] at p; exact False.elim p
    | some o =>
      cases o with
      | none =>
        rw [q] at p
        exact .inl ⟨j1 q, p m H σ Ext.refl rl rs⟩
      | some c =>
        rw [q] at p
        obtain ⟨go, yl⟩ := j2 c q
        refine .inr ⟨go, fun σ' H' => ∃ m sl h, Rl X.K m h H' ∧ RS X.K m H' sl σ' ∧ JRel X.K m H' it J ∧ PostS et X.K W D m H' (forF it fg fb n (i + 1) sl h), fun σ' H' q => ⟨n, Nat.lt_succ_self n, q⟩, fun x H2 y => ?_⟩
        obtain ⟨m2, x2, rl2, rv2⟩ := yl x H2 y
        have p2 := PostS.ext p x2
        refine ⟨m2, sl, h, c, rl2, rs.ext x2, rv2, ?_⟩
        have p2 : PostS et X.K W D m2 H2 ((fg c sl h).noerr.th sl fun sl1 h1 => match fb sl1 h1 with
          | .nx sl2 h2 => forF it fg fb n (i + 1) sl2 h2
          | .ct sl2 h2 => forF it fg fb n (i + 1) sl2 h2
          | .bk sl2 h2 => .nx sl2 h2
          | r => r) := p2
        cases qg : fg c sl h with
        | err _ _ _ => rw [qg] at p2; exact False.elim p2
        | bad => rw [qg] at p2; exact False.elim p2
        | ok sl1 h1 =>
          rw [qg] at p2
          intro m3 H3 σ3 x3 rl3 rs3
          refine ⟨m3, sl1, h1, rl3, rs3, ?_⟩
          have p3 : PostS et X.K W D m2 H2 (match fb sl1 h1 with
            | .nx sl2 h2 => forF it fg fb n (i + 1) sl2 h2
            | .ct sl2 h2 => forF it fg fb n (i + 1) sl2 h2
            | .bk sl2 h2 => .nx sl2 h2
            | r => r) := p2
          have p3 := PostS.ext p3 x3
          have j3 : ∀ {m4 : List Addr} {H4 : Hp}, Ext X.K m3 H3 m4 H4 → JRel X.K m4 H4 it J := fun x4 => ((j.ext x2).ext x3).ext x4
          cases qb : fb sl1 h1 with
          | nx sl2 h2 => rw [qb] at p3; exact fun m4 H4 σ4 x4 rl4 rs4 => ⟨m4, sl2, h2, rl4, rs4, j3 x4, PostS.ext p3 x4⟩
          | ct sl2 h2 => rw [qb] at p3; exact fun m4 H4 σ4 x4 rl4 rs4 => ⟨m4, sl2, h2, rl4, rs4, j3 x4, PostS.ext p3 x4⟩
          | bk sl2 h2 => rw [qb] at p3; exact p3
          | ret c h2 => rw [qb] at p3; exact p3
          | err k xs sl2 h2 => rw [qb] at p3; exact p3
          | bad => rw [qb] at p3; exact p3
end
end Sh
set_option Elab.async false
set_option linter.all false
set_option autoImplicit false
set_option maxRecDepth 100000
set_option maxHeartbeats 4000000
/-! Sh, part K0: own classes of exceptions with an __init__, over any built-in class: storing their fields, making them. -/
namespace Sh
open PySem PySem.Spec PyProof.Rows L2
open PySem.Builtin PySem.Builtin.ObjectAttr

/-- what a class's line of classes tells of storing -/
structure Sto (l : List Value) : Prop where
  pass : ∀ v : Value, refuseLoop v "__setattr__" l = pure ()
  obj : l.contains (.type "object") = true
theorem Sto.ne {l : List Value} (S : Sto l) : l.isEmpty = false := by
  cases l with
  | cons _ _ => rfl
  | nil => exact absurd S.obj (by decide)
theorem Sto.own {l : List Value} (S : Sto l) (c : Addr) : Sto (.ref c :: l) := ⟨fun v => (refuseLoop_ref ..).trans (S.pass v), by rw [List.contains_cons, S.obj, Bool.or_true]⟩
theorem sto_of {B : String} {bm : List Value} (F : StoreFacts B bm "object.__setattr__" "object") : Sto bm := ⟨F.passes, F.hasOwner⟩
section
variable {P : Program} {w : World} {A : Around} {R : Result → Shared → Prop} {hh : Heap} {gg : Array GenState} {dd : Drawn} {tt : Nat} {oo : OsState}
  {K : PySem.W.Frag} {nm : Str} {tk : Tok} {u : Value} {e C dx : Addr} {fv : Array Value} {cd : ClassData}
/-- the first field: the dict is made -/
theorem sto0 (X : K.In hh) (hx : hh.get? e = some { cls := .ref C, data := .fields fv }) (hcd : PySem.W.clsIn K C = some cd) (S : Sto cd.mro) (hd : cd.hasDict = true) (ha : PySem.W.findIn K (.ref C) nm = some none)
    (hq : ∀ h2 t2 dx, (∀ b o, b ≠ e → hh.get? b = some o → h2.get? b = some o) → hh.objs.size ≤ dx → dx ≠ e → h2.get? e = some { cls := .ref C, dict := some dx, data := .fields fv } → h2.Ns1 dx (fun y => if y = nm then some u else none) → R (.ok (.ret .none)) ⟨h2, gg, dd, t2, oo⟩) :
    codeAny (model P w) A (.call (.builtin "object.__setattr__") ⟨[.ref e, .str nm tk, u], []⟩) R ⟨hh, gg, dd, tt, oo⟩ := by
  have new : e ≠ hh.objs.size := Nat.ne_of_lt (Heap.lt_size hx)
  have at_ : PySem.W.InstAt hh e { cls := .ref C, data := .fields fv } C none := ⟨hx, rfl, rfl, trivial⟩
  have so := PySem.F.store_object
  have looks : PySem.W.Looks (model P w) hh (classData C) cd := PySem.W.looks_clsIn X hcd
  have line : PySem.W.Looks (model P w) hh (mroOf (.ref C)) cd.mro := looks.andThen .now
  have isO : PySem.W.Looks (model P w) hh (isInstance (.ref e) (.type "object")) true := at_.type.andThen (PySem.W.looks_mroIn X (by
    unfold PySem.W.mroIn
    rw [hcd, Option.bind_some, if_neg (by rw [S.ne]; decide), S.obj]))
  refine codeAny_call_builtin so.slot.plain so.entry (@PySem.W.check_slot (model P w) _ _ ⟨hh, gg, dd, tt, oo⟩ "object.__setattr__" "object" "__setattr__" (.ref e)
    [.str nm tk, u] [] _ so.kind so.split isO (so.args _ _ _) ?_)
  rw [PySem.W.osa_eq, refuse_eq]
  refine wpAny_bind (wpAny_bind (at_.type.at (wpAny_bind (line.at ?_))))
  rw [S.pass]
  have none3 : PySem.W.Looks (model P w) hh (storeTaker? none) none := .now
  refine wpAny_pure (wpAny_bind (at_.type.at (wpAny_bind ((PySem.W.looks_findIn X ha).at (wpAny_bind (none3.at ?_))))))
  show wpAny _ _ (storeInOwnDict (.ref e) (.ref C) (.str nm tk) nm u false) _ _ _
  cases cd with
  | mk a1 a2 a3 a4 a5 a6 a7 a8 a9 a10 a11 =>
    obtain rfl : a6 = true := hd
    unfold storeInOwnDict ownDictForStores
    repeat (first
      | with_reducible refine PySem.HandSPX.store_in_new ?_ ?_
      | with_reducible refine wpAny_loadPart_at hx ?_
      | with_reducible refine looks.at ?_
      | wp_step)
    · exact ⟨_, #[], _, (Heap.get?_update_ne _ _ _ _ new.symm).trans (Heap.get?_push_at rfl rfl), rfl, fun z hz => absurd hz (by simp), fun _ => rfl⟩
    · intro h2 t2 ns sb
      have hx2 : (hh.push { cls := .type "dict", data := .dict #[] }).get? e = some { cls := .ref C, data := .fields fv } := Heap.get?_push_of_some _ hx
      refine hq h2 t2 hh.objs.size (fun b o hb ho => ?_) (Nat.le_refl _) new.symm ((sb.2 e new).trans (Heap.get?_update_self _ hx2 rfl)) ns
      rw [sb.2 b (Nat.ne_of_lt (Heap.lt_size ho)), Heap.get?_update_ne _ _ _ _ hb]
      exact Heap.get?_push_of_some _ ho
/-- a further field -/
theorem stoD {m0 : Str → Option Value} {nl : List Str} (X : K.In hh) (hx : hh.get? e = some { cls := .ref C, dict := some dx, data := .fields fv }) (hns : hh.Ns1 dx m0) (hw : Within m0 nl) (hz : nl.length ≤ 1000) (hcd : PySem.W.clsIn K C = some cd) (S : Sto cd.mro) (hd : cd.hasDict = true) (ha : PySem.W.findIn K (.ref C) nm = some none)
    (hq : ∀ h2 t2, (∀ b o, b ≠ dx → hh.get? b = some o → h2.get? b = some o) → h2.Ns1 dx (fun y => if y = nm then some u else m0 y) → R (.ok (.ret .none)) ⟨h2, gg, dd, t2, oo⟩) :
    codeAny (model P w) A (.call (.builtin "object.__setattr__") ⟨[.ref e, .str nm tk, u], []⟩) R ⟨hh, gg, dd, tt, oo⟩ := by
  obtain ⟨od, _, _, hod, _, _⟩ := hns.count hw
  have at_ : PySem.W.InstAt hh e { cls := .ref C, dict := some dx, data := .fields fv } C (some od) := ⟨hx, rfl, rfl, hod⟩
  have so := PySem.F.store_object
  have looks : PySem.W.Looks (model P w) hh (classData C) cd := PySem.W.looks_clsIn X hcd
  have line : PySem.W.Looks (model P w) hh (mroOf (.ref C)) cd.mro := looks.andThen .now
  have isO : PySem.W.Looks (model P w) hh (isInstance (.ref e) (.type "object")) true := at_.type.andThen (PySem.W.looks_mroIn X (by
    unfold PySem.W.mroIn
    rw [hcd, Option.bind_some, if_neg (by rw [S.ne]; decide), S.obj]))
  refine codeAny_call_builtin so.slot.plain so.entry (@PySem.W.check_slot (model P w) _ _ ⟨hh, gg, dd, tt, oo⟩ "object.__setattr__" "object" "__setattr__" (.ref e)
    [.str nm tk, u] [] _ so.kind so.split isO (so.args _ _ _) ?_)
  rw [PySem.W.osa_eq, refuse_eq]
  refine wpAny_bind (wpAny_bind (at_.type.at (wpAny_bind (line.at ?_))))
  rw [S.pass]
  have none3 : PySem.W.Looks (model P w) hh (storeTaker? none) none := .now
  refine wpAny_pure (wpAny_bind (at_.type.at (wpAny_bind ((PySem.W.looks_findIn X ha).at (wpAny_bind (none3.at ?_))))))
  show wpAny _ _ (storeInOwnDict (.ref e) (.ref C) (.str nm tk) nm u false) _ _ _
  cases cd with
  | mk a1 a2 a3 a4 a5 a6 a7 a8 a9 a10 a11 =>
    obtain rfl : a6 = true := hd
    unfold storeInOwnDict ownDictForStores
    repeat (first
      | with_reducible refine PySem.OEX.store_in_old hns hw hz ?_
      | with_reducible refine wpAny_loadPart_at hx ?_
      | with_reducible refine looks.at ?_
      | wp_step)
    exact fun h2 t2 ns sb => hq h2 t2 (fun b o hb ho => (sb.2 b hb).trans ho) ns
end
/-- what the written part says of a class with an __init__, over whatever built-in class -/
structure OexG (K : PySem.W.Frag) (C : Addr) : Prop where
  cls : ∃ nm q N bs bm sn sub ab col dd k0 k1 k2 k3 k5 newId, K.lookup C = some (excClassObj nm q C N bs bm true sn sub ab col dd k0 k1 k2 k3 k5 newId) ∧ Sto bm ∧ ∃ B initId bmB, ExcBaseFacts B newId initId bmB ∧ ∀ Y : String, bm.contains (.type Y) = bmB.contains (.type Y)
  sa : PySem.W.findIn K (.ref C) "__setattr__" = some (some (.builtin "object.__setattr__"))
  exC : PySem.W.subIn K (.ref C) (.type "BaseException") = some true
  tyC : PySem.W.typeIn K (.ref C) = some (.type "type")
  kC : PySem.W.keepIn K (.ref C) = true
section
variable {X : Cx} {pins : List (Addr × Obj)} {σ : L2.St} {H : Hp} {s : Shared} {a C dx : Addr} {f : Str} {y : V} {u : Value} {fs : List (Str × V)} {Q : Unit → Shared → Prop} {E : Value → Shared → Prop} {A : Around}
theorem OexG.clsIn (T : OexG X.K C) : ∃ cd : ClassData, PySem.W.clsIn X.K C = some cd ∧ Sto cd.mro ∧ cd.hasDict = true := by
  obtain ⟨n1, q1, N1, b1, l1, s1, u1, ab, co, _, _, _, _, _, _, _, hC, hS, _⟩ := T.cls
  have z : PySem.W.clsIn X.K C = some (ClassData.mk n1 b1 (.ref C :: l1) N1 q1 true s1 u1 ab co false) := by
    unfold PySem.W.clsIn
    rw [hC]
  exact ⟨_, z, hS.own C, rfl⟩
/-- self.f = y, the first one -/
theorem ostG_new (T : OexG X.K C) (I : Inv X pins σ H s) (e : H a = some (exo a C none)) (hno : PySem.W.findIn X.K (.ref C) f = some none) (ry : RelV y u)
    (h : ∀ dx s2, H dx = none → dx ≠ a → Inv X pins σ (upd (upd H dx (exd dx [(f, y)])) a (exo a C (some dx))) s2 → Q () s2) : wpAny (model X.prog X.w) A (setAttr (.ref a) f u) Q E s := by
  obtain ⟨cd, c1, c2, c3⟩ := T.clsIn
  obtain ⟨t1, ho⟩ := exo_at I.hok e
  obtain ⟨h0, gn, dr, tk, os⟩ := s
  refine PySem.W.set_plain I.kIn (od := none) ⟨ho, rfl, rfl, trivial⟩ T.sa (sto0 I.kIn ho c1 c2 c3 hno fun h2 t2 dx kp fr ne hx hn => ?_)
  have hdn : H dx = none := I.hok.fresh fr
  have off : ∀ {b : Addr} {o : Obj}, h0.get? b = some o → b ≠ dx := fun z => Nat.ne_of_lt (Nat.lt_of_lt_of_le (Heap.lt_size z) fr)
  have offA : ∀ {b : Addr}, H b = none → b ≠ a := fun n z => by rw [z, e] at n; cases n
  have U : Un X.fs [] H (upd (upd H dx (exd dx [(f, y)])) a (exo a C (some dx))) h0 h2 := by
    refine { keep := fun b o z n _ _ => kp b o (offA n) z, slot := fun b o z n _ _ => ⟨o.slots, kp b o (offA n) z⟩, free := fun b o z n _ => ?_, there := fun b o z _ => ?_, tups := fun b xs z => ?_, frzs := fun b o v z => ?_, tbls := fun b ps z => ⟨#[], ?_⟩ }
    · rw [upd_ne (offA n), upd_ne (off z), n]
    · rcases Decidable.em (b = a) with q | q
      · exact ⟨_, q ▸ hx⟩
      · exact ⟨o, kp b o q z⟩
    · rw [upd_ne (at_ne e z exo_tup), upd_ne (ne_of_none z hdn), z]
    · rw [upd_ne (at_ne e z exo_frz), upd_ne (ne_of_none z hdn), z]
    · rw [upd_ne (at_ne e z exo_tbl), upd_ne (ne_of_none z hdn), z]; simp
  refine h dx _ hdn ne (I.un (t' := t2) U fun b o z => ?_)
  rcases Decidable.em (b = a) with q | q
  · rw [q, upd_same] at z
    cases z
    rw [q]
    exact exo_ok hx
  rw [upd_ne q] at z
  rcases Decidable.em (b = dx) with q2 | q2
  · rw [q2, upd_same] at z
    cases z
    rw [q2]
    exact exd_ok hn (relO_put (fs := []) ry fun _ => True.intro)
  rw [upd_ne q2] at z
  refine (I.hok b o z).stay (fun c v hc z2 => kp c v ?_ z2) (fun c hc => ?_) fun c xs hc => ?_
  · rcases hc with hc | hc
    · rw [hc]; exact q
    · exact at_ne e hc exo_own
  · rw [upd_ne (at_ne e hc exo_own), upd_ne (ne_of_none hc hdn), hc]
  · rw [upd_ne (at_ne e hc exo_tup), upd_ne (ne_of_none hc hdn), hc]
/-- self.f = y, a further one -/
theorem ostG_old (T : OexG X.K C) (I : Inv X pins σ H s) (e : H a = some (exo a C (some dx))) (ed : H dx = some (exd dx fs)) (hl : fs.length ≤ 900) (hno : PySem.W.findIn X.K (.ref C) f = some none) (ry : RelV y u)
    (h : ∀ s2, Inv X pins σ (upd H dx (exd dx ((f, y) :: fs))) s2 → Q () s2) : wpAny (model X.prog X.w) A (setAttr (.ref a) f u) Q E s := by
  obtain ⟨cd, c1, c2, c3⟩ := T.clsIn
  obtain ⟨t1, ho⟩ := exo_at I.hok e
  obtain ⟨mA, hns, rel⟩ := exd_at I.hok ed
  have inn := within_of rel
  obtain ⟨h0, gn, dr, tk, os⟩ := s
  obtain ⟨od, _, _, hod, _, _⟩ := hns.count inn
  refine PySem.W.set_plain I.kIn (od := some od) ⟨ho, rfl, rfl, hod⟩ T.sa (stoD I.kIn ho hns inn (by rw [List.length_map]; omega) c1 c2 c3 hno fun h2 t2 kp hn => ?_)
  refine h _ (I.write (t' := t2) (x := dx) (e := dx) (o := exd dx ((f, y) :: fs)) (by rw [ed]; exact True.intro) (.inl rfl) kp ?_ (exd_ok hn (relO_put ry rel)))
  obtain ⟨o, _, _, z, _⟩ := hn
  exact ⟨o, z⟩
end
/-- self.f = e -/
def tOstG (K : PySem.W.Frag) (f : Str) (to te : TE) : TS := fun D σ H => te σ H fun y H1 => to σ H1 fun x H2 => ∃ a C : Addr, x = .ref a ∧ OexG K C ∧ PySem.W.findIn K (.ref C) f = some none ∧
  ((H2 a = some (exo a C none) ∧ ∀ dx, H2 dx = none → dx ≠ a → D.nx σ (upd (upd H2 dx (exd dx [(f, y)])) a (exo a C (some dx)))) ∨
    ∃ (dx : Addr) (fs : List (Str × V)), H2 a = some (exo a C (some dx)) ∧ H2 dx = some (exd dx fs) ∧ fs.length ≤ 900 ∧ D.nx σ (upd H2 dx (exd dx ((f, y) :: fs))))
section
variable {X : Cx} {o e : Expr} {es : List Expr} {to te : TE} {ta : TA} {f : Str} {p p2 pos : Pos}
theorem ps_ostG (ho : PE X o to) (he : PE X e te) (hs : swapsWith e (some (.Attribute o f p2)) pos.line X.env = pure false := by rfl) : PS X (.Assign [.Attribute o f p2] e pos) (tOstG X.K f to te) :=
  ⟨fun pins s σ H D I h => plainObj_wpAny_Assign_Attribute (thn (he.run pins s σ H _ I h) fun v s1 ⟨y, H1, I1, r1, q1⟩ =>
    thn (ho.run pins s1 σ H1 _ I1 q1) fun u s2 ⟨x, H2, I2, r2, a, C, ex, T, hno, q⟩ => by
      subst ex
      cases r2
      rcases q with ⟨ea, q⟩ | ⟨dx, fs, ea, ed, hl, q⟩
      · exact ostG_new T I2 ea hno r1 fun dx s3 n ne J => ⟨σ, _, J, q dx n ne⟩
      · exact ostG_old T I2 ea ed hl hno r1 fun s3 J => ⟨σ, _, J, q⟩) hs⟩
/-- C(e, ..), C's own __init__ keeping sp -/
theorem pmk_oexG {CX : CXT} {x : Str} {C fI : Addr} {k : Nat} {fd : FuncData} {ps : List Str} {sp : Sp} (T : OexG X.K C) (iC : PySem.W.findIn X.K (.ref C) "__init__" = some (some (.ref fI))) (tI : PySem.W.typeIn X.K (.ref fI) = some (.type "function"))
    (F1 : FnOk X.prog X.w X.K X.mg X.base CX k fI fd ps sp) (hr : Room (k + 1) X.A) (hb : Binds X.K fd ps []) (hx : Passes CX X (fun _ _ _ => False)) (hg : Gl X x) (hm : X.mg x = some (.ref C)) (ha : PA X (e :: es) ta)
    (hdb : (x == ("__debug__" : Str)) = false) (he : starEach (e :: es) X.env = (false, eval e X.env) :: starEach es X.env) (hpl : (backTo pos (starEach es X.env)).any (·.1) = false) :
    PMk X (.Call (.Name x p) (e :: es) [] pos) (tMkO C sp [] ta) := by
  intro pins s σ H Q I h
  obtain ⟨_, _, _, _, bm, _, _, _, _, _, _, _, _, _, _, newId, hC, _, B, initId, bmB, bf, cont⟩ := T.cls
  refine wpAny_Call_Name_kw (ld_glob I hg hm ?_ hdb)
  refine PySem.W.callWith_K (h₀ := X.base) I.ok.mod.kin T.kC (thn (ha.run pos pins s σ H _ I h) fun us s1 ⟨vs, H1, I1, r1, hz, q1⟩ => ⟨I1.kIn, ?_⟩) he hpl
  show wpAny _ _ (call (.ref C) us) _ _ _
  obtain ⟨h0, gn, dr, tk, os⟩ := s1
  have up : h0.objs.size ≤ h0.objs.size + 1 := Nat.le_succ _
  have q2 := q1 (h0.objs.size + 1) (I1.hok.fresh up)
  let h1 := (h0.push (PySem.W.kdv_tup us)).push (PySem.HandSPX.excO C h0.objs.size)
  have old : ∀ b o, h0.get? b = some o → h1.get? b = some o := fun b o z => Heap.get?_push_of_some _ (Heap.get?_push_of_some _ z)
  have got : h1.get? (h0.objs.size + 1) = some (PySem.HandSPX.excO C h0.objs.size) := by heap_get
  have J : Inv X pins σ (upd H1 (h0.objs.size + 1) (exo (h0.objs.size + 1) C none)) ⟨h1, gn, dr, tk, os⟩ := I1.laid (t' := tk) (a := h0.objs.size + 1) (o := exo (h0.objs.size + 1) C none) (h' := h1) old up (exo_ok got)
  have rs : Vals (V.ref (h0.objs.size + 1) :: (vs ++ [])) (Value.ref (h0.objs.size + 1) :: us) := by
    rw [List.append_nil]
    exact .cons rfl r1
  have lus : us.length ≤ sizeLine := by rw [← Paired.length r1, sizeLine_eq]; omega
  have lps : (Value.ref (h0.objs.size + 1) :: us).length = ps.length := by rw [← rs.length, F1.len _ _ _ _ q2]
  have bd := hb ⟨h1, gn, dr, tk, os⟩ (Value.ref (h0.objs.size + 1) :: us) J.kIn (by rw [List.append_nil]; exact lps)
  rw [List.append_nil] at bd
  refine wpAny_call (PySem.HandSPX.call_own bf cont (I1.kIn _ _ hC) (PySem.W.looks_findIn I1.kIn iC) (fun self => PySem.W.bind_fn I1.kIn self tI) lus
    (codeAny_mono (F1.run _ X.stack _ _ ⟨_, []⟩ _ _ _ (fun _ _ _ => False) (hr.make C us []) (J.env0.make C us []) bd rs q2) fun r s2 hq => ?_))
  cases r with
  | error er => exact hx pins σ _ _ er s2 J hq
  | ok fl =>
    cases fl with
    | ret v =>
      obtain ⟨v0, H2, o2, b2, u2, k2, rv, ev, dx, fs, ea, ed, hn, q3⟩ := hq
      subst ev
      exact ⟨rv, mk_end (raises_own T.exC T.tyC) I1 up old u2 k2 o2 b2 ea ed hn q3⟩
    | next => exact False.elim hq
    | brk => exact False.elim hq
    | cont => exact False.elim hq
end
theorem OexG.of {K : PySem.W.Frag} {C : Addr} (T : OexC K C) : OexG K C := by
  obtain ⟨nm, q, N, bs, bm, sn, sub, ab, col, dd, k0, k1, k2, k3, k5, hC, hbm⟩ := T.cls
  exact ⟨⟨nm, q, N, bs, bm, sn, sub, ab, col, dd, k0, k1, k2, k3, k5, _, hC, ⟨fun v => PySem.HandSPX.refsVE_pass v bm hbm, (PySem.HandSPX.refsVE_contains "object" bm hbm).trans (by decide +kernel)⟩, _, _, _, PySem.F.excBase_ValueError, fun Y => PySem.HandSPX.refsVE_contains Y bm hbm⟩, T.sa, T.exC, T.tyC, T.kC⟩
/-- own classes, then the line T -/
def refsT (T : List Value) : List Value → Bool
  | .ref _ :: r => refsT T r
  | l => l == T
theorem refsT_cases (T : List Value) (l : List Value) (h : refsT T l = true) : (∃ c r, l = .ref c :: r ∧ refsT T r = true) ∨ l = T := by
  cases l with
  | nil => exact .inr (beq_iff_eq.mp h)
  | cons v r => cases v <;> first | exact .inl ⟨_, _, rfl, h⟩ | exact .inr (beq_iff_eq.mp h)
theorem refsT_sto {T : List Value} (hT : Sto T) : ∀ l, refsT T l = true → Sto l
  | [], h => (refsT_cases T _ h).elim (fun ⟨_, _, e, _⟩ => by cases e) fun e => e ▸ hT
  | v :: r, h => by
    rcases refsT_cases T _ h with ⟨c, r2, e, h2⟩ | e
    · cases e
      exact (refsT_sto hT r h2).own c
    · rw [e]; exact hT
theorem refsT_cont {T : List Value} (Y : String) : ∀ l, refsT T l = true → l.contains (.type Y) = T.contains (.type Y)
  | [], h => (refsT_cases T _ h).elim (fun ⟨_, _, e, _⟩ => by cases e) fun e => e ▸ rfl
  | v :: r, h => by
    rcases refsT_cases T _ h with ⟨c, r2, e, h2⟩ | e
    · cases e
      rw [List.contains_cons, refsT_cont Y r h2]; rfl
    · rw [e]
theorem oexG_mk {K : PySem.W.Frag} {C N : Addr} {nm q : Str} {bs bm bmB : List Value} {sn : List Str} {sub : List Value} {ab : Bool} {col : Option Bool} {dd : Option Addr} {k0 k1 k2 k3 k5 : Option Value} {B newId initId : String}
    (hC : K.lookup C = some (excClassObj nm q C N bs bm true sn sub ab col dd k0 k1 k2 k3 k5 newId)) (hb : refsT bmB bm = true) (bf : ExcBaseFacts B newId initId bmB) (sf : StoreFacts B bmB "object.__setattr__" "object")
    (sa : PySem.W.findIn K (.ref C) "__setattr__" = some (some (.builtin "object.__setattr__"))) (exC : PySem.W.subIn K (.ref C) (.type "BaseException") = some true) (tyC : PySem.W.typeIn K (.ref C) = some (.type "type")) (kC : PySem.W.keepIn K (.ref C) = true) : OexG K C :=
  ⟨⟨nm, q, N, bs, bm, sn, sub, ab, col, dd, k0, k1, k2, k3, k5, newId, hC, refsT_sto (sto_of sf) bm hb, B, initId, bmB, bf, fun Y => refsT_cont Y bm hb⟩, sa, exC, tyC, kC⟩
end Sh
set_option Elab.async false
set_option linter.all false
set_option autoImplicit false
set_option maxRecDepth 100000
set_option maxHeartbeats 8000000
/-! Sh, part K: exceptions: made, caught by several named clauses, what a clause tells of them. -/
namespace Sh
open PySem PySem.Spec PyProof.Rows L2

/-! ### several clauses, each with a name -/
def wAsM (K : PySem.W.Frag) (Wout : WX) (D : Ends) : List (Value × Nat × (Addr → Value → Option Addr → TS)) → WX
  | [] => Wout
  | (c, i, ts) :: r => fun cls d σ H => ∃ b, PySem.W.exmOne K cls c = some b ∧
    (b = true → ∀ a, H a = none → ts a cls d { nx := fun σ' H' => D.nx (σ'.set i none) H', rt := D.rt, bk := fun σ' H' => D.bk (σ'.set i none) H', ct := fun σ' H' => D.ct (σ'.set i none) H' } (σ.set i (some (.ref a))) H) ∧
    (b = false → wAsM K Wout D r cls d σ H)
inductive HdsAs (X : Cx) : List ExceptHandler → List (Value × Nat × (Addr → Value → Option Addr → TS)) → Prop
  | nil : HdsAs X [] []
  | cons {x n : Str} {c : Value} {i : Nat} {ts : Addr → Value → Option Addr → TS} {b₀ : Stmt} {suite : List Stmt} {np pos' : Pos} {hds : List ExceptHandler} {l : List (Value × Nat × (Addr → Value → Option Addr → TS))} (hi : X.N[i]? = some n) (hln : X.env.kindOf n = some .local) (hc : Names X x c)
      (hsu : ∀ (a : Addr) (oe : Obj) (cls : Value) (d : Option Addr) (pn : List (Addr × Obj)), Zc cls d oe → (∃ vs, oe.data = .fields vs) → PSs (X.suite a ((a, oe) :: pn)) (b₀ :: suite) (ts a cls d)) (r : HdsAs X hds l) :
      HdsAs X (.ExceptHandler (some (.Name x np)) (some n) (b₀ :: suite) pos' :: hds) ((c, i, ts) :: l)
section
variable {X : Cx} {body : List Stmt} {h₀ : ExceptHandler} {hds : List ExceptHandler} {l : List (Value × Nat × (Addr → Value → Option Addr → TS))} {pos : Pos} {tb : WX → TS} {Wout : WX}
theorem ps_try_asm (hs : X.stack = X.env :: X.outer) (hf : X.env.frame = some X.env.locals) (hN : X.N.Nodup) (tk : Takes X Wout)
    (hb : ∀ (W : WX) (pn : List (Addr × Obj)) (xe : Value → Shared → Prop), Takes (X.tr pn xe) W → PassesOwn (model X.prog X.w) X.A X.env xe → PSs (X.tr pn xe) body (tb W))
    (hh : HdsAs X (h₀ :: hds) l) : PS X (.Try body (h₀ :: hds) [] [] pos) (fun D σ H => tb (wAsM X.K Wout D l) D σ H) := by
  refine ⟨fun pins s σ H D I h => ?_⟩
  have ok := I.ok
  have hfr : X.A.frames = some (X.env :: X.outer) := by rw [ok.frames, hs]
  refine wpAny_Try_except ?_
  refine wpAny_mono ((hb (wAsM X.K Wout D l) (X.pn ++ pins) (fun e s₁ => wpAny (model X.prog X.w) X.A (noteFrame e X.env) (fun _ s₂ => wpAny (model X.prog X.w) X.A (setFlight e none) (fun _ s₃ =>
    wpAny (model X.prog X.w) X.A (handleBy e X.env (h₀ :: hds)) (SP X pins D) X.xe s₃) X.xe s₂) X.xe s₁) (fun u s' xx => ?_) PassesOwn.looking).run [] s σ H D (I.toTry _) h) (fun f s1 hsp => ?_) (fun e s1 he => he)
  · -- the catch
    obtain ⟨a, B, sI, pins', σ', H', cls, d, rfl, J', nb, up, sky, na, os, ag, w⟩ := xx
    have J : Inv X pins σ' H' sI := J'.ofTry ok
    have sky' : Sky B (X.env :: X.outer) a (Zc cls d) X.env.locals s'.heap := by rw [← hs]; exact sky
    show wpAny (model X.prog X.w) X.A (noteFrame (.ref a) X.env) _ _ _
    refine Sky.land Zc.steady hfr hf sky' fun h3 fl3 up3 => ?_
    have J3 : Inv X pins σ' H' { s' with heap := h3 } := J.landed nb fl3.1 (up.trans up3) os ag
    obtain ⟨oe3, vs3, he3, hz3, hd3⟩ := fl3.there
    have notFr : ∀ {h : Heap} {o : Obj} {vs : Array Value}, h.FunFrames B (X.env :: X.outer) → h.get? a = some o → o.data = .fields vs → a ∉ frs (X.env :: X.outer) := fun {h o vs} ff e dd hm => by
      obtain ⟨_, o', e', hnf⟩ := ff.mem hm
      rw [e] at e'; cases e'
      exact hnf _ dd
    have nfr := notFr fl3.2.2.1 he3 hd3
    have nL : a ≠ X.env.locals := fun z => nfr (List.mem_filterMap.mpr ⟨X.env, List.mem_cons_self, by rw [hf, z]⟩)
    have nF : a ∉ X.fs := fun hm => by
      obtain ⟨e, he, q⟩ := List.mem_filterMap.mp hm
      exact nfr (List.mem_filterMap.mpr ⟨e, List.mem_cons_of_mem _ he, q⟩)
    have S3 := J3.suite he3 hd3 na nL nF
    have go : ∀ {hds' : List ExceptHandler} {l' : List (Value × Nat × (Addr → Value → Option Addr → TS))}, HdsAs X hds' l' → wAsM X.K Wout D l' cls d σ' H' →
        wpAny (model X.prog X.w) X.A (handleBy (.ref a) X.env hds') (SP X pins D) X.xe { s' with heap := h3 } := by
      intro hds' l' hk
      induction hk with
      | nil =>
        intro w
        refine wpAny_handleBy_nil ?_
        obtain ⟨k1, k2, k3, oe, vs, T, oT, ts', he, hz, hd, h1, hr⟩ := id fl3
        unfold PySem.passOn
        refine wpAny_bind (wpAny_field he hd h1 ?_)
        rw [if_neg (show ¬ ((Value.ref T == Value.none) = true) from by simp)]
        have fin : wpAny (model X.prog X.w) X.A (setFlight (.ref a) X.env.frame) (fun _ s4 => wpAny (model X.prog X.w) X.A (throw (.ref a) : Sem Flow) (SP X pins D) X.xe s4) X.xe { s' with heap := h3 } := by
          rw [hf]
          refine HandSPX.setFlight_upZ fl3 fun h4 hh4 up4 => wpAny_throw (tk _ _ ?_)
          exact ⟨a, B, sI, pins, σ', H', cls, d, rfl, J, nb, (up.trans up3).trans up4, .inr (.inr (by rw [hs]; exact hh4)), na, os, ag, w⟩
        first
          | exact wpAny_bind (wpAny_pure (wpAny_bind fin))
          | exact wpAny_bind fin
      | @cons x n c i ts b₀ suite np pos' hds2 l2 hi hln hc hsu r ih =>
        intro w
        obtain ⟨b, hb1, hyes, hno⟩ := w
        have hloc : Loc X.env.scope n := .inl hln
        refine wpAny_handleBy_cons (codeAny_handlers_test ?_) (by intro q; cases q)
        have LT : PySem.W.Looks (model X.prog X.w) h3 (typeOf (.ref a)) cls := fun A Q E s k q => wpAny_typeOf_ref (k _ _ he3) (by rw [hz3.1]; exact q)
        have LM := PySem.W.exm_one (M := model X.prog X.w) (J3.kIn) LT hb1
        have test : ∀ {Q : Value → Shared → Prop} {E : Value → Shared → Prop}, Q c { s' with heap := h3 } → wpAny (model X.prog X.w) (X.A.mark (some (.ref a))) (eval (.Name x np) X.env) Q E { s' with heap := h3 } := fun {Q E} q => by
          obtain ⟨hg, hdbg, hm | ⟨hm, hv, hnn⟩⟩ := hc
          · exact ld_glob (X := X.suite a ((a, oe3) :: (X.pn ++ pins))) S3 hg hm q hdbg
          · exact ld_blt (X := X.suite a ((a, oe3) :: (X.pn ++ pins))) S3 hg hm hv q hnn hdbg
        refine test (LM.here ?_)
        cases b with
        | true =>
          refine codeAny_handlers_suite_as ?_
          refine HandSPX.lands_againZ fl3 fun h4 fl4 up4 => ?_
          have J4 : Inv X pins σ' H' { s' with heap := h4 } := J.landed nb fl4.1 ((up.trans up3).trans up4) os ag
          obtain ⟨oe4, vs4, he4, hz4, hd4⟩ := fl4.there
          have S4 := J4.suite he4 hd4 na nL nF
          refine store_ok (X := X.suite a ((a, oe4) :: (X.pn ++ pins))) (v := .ref a) S4 hN hi hloc rfl (fun s5 S5 => ?_) (.inr hln)
          refine wpAny_mono ((hsu a oe4 cls d (X.pn ++ pins) hz4 ⟨_, hd4⟩).run [] s5 _ H' _ S5 (hyes rfl a na)) (fun f s6 hsp => ?_) (fun _ _ z => False.elim z)
          have end_ : ∀ {σ6 : L2.St} {H6 : Hp} {Q : Shared → Prop}, Inv (X.suite a ((a, oe4) :: (X.pn ++ pins))) [] σ6 H6 s6 → (∀ s7, Inv X pins (σ6.set i none) H6 s7 → Q s7) →
              wpAny (model X.prog X.w) X.A (do bindName X.env n .none; unbindBehindTheSuite X.env n pos') (fun _ s7 => Q s7) X.xe s6 := fun {σ6 H6 Q} S6 hq => gone_ok (S6.unsuite ok) hN hi hln hq
          cases f with
          | next =>
            obtain ⟨σ6, H6, S6, q6⟩ := hsp
            exact end_ S6 fun s7 J7 => ⟨_, _, J7, q6⟩
          | brk =>
            obtain ⟨σ6, H6, S6, q6⟩ := hsp
            exact end_ S6 fun s7 J7 => ⟨_, _, J7, q6⟩
          | cont =>
            obtain ⟨σ6, H6, S6, q6⟩ := hsp
            exact end_ S6 fun s7 J7 => ⟨_, _, J7, q6⟩
          | ret u =>
            obtain ⟨v6, σ6, H6, S6, r6, q6⟩ := hsp
            exact end_ S6 fun s7 J7 => ⟨_, _, _, J7, r6, q6⟩
        | false =>
          show wpAny _ X.A (handleBy (.ref a) X.env hds2) _ _ _
          exact ih (hno rfl)
    exact go hh w
  · cases f with
    | next =>
      obtain ⟨σ', H', J', q⟩ := hsp
      exact wpAny_execs_nil ⟨σ', H', J'.ofTry ok, q⟩
    | brk =>
      obtain ⟨σ', H', J', q⟩ := hsp
      exact ⟨σ', H', J'.ofTry ok, q⟩
    | cont =>
      obtain ⟨σ', H', J', q⟩ := hsp
      exact ⟨σ', H', J'.ofTry ok, q⟩
    | ret u =>
      obtain ⟨v, σ', H', J', r, q⟩ := hsp
      exact ⟨v, σ', H', J'.ofTry ok, r, q⟩
end

/-! ### the table of classes -/
structure Cfx where
  cf : Cfg
  ex : List (Str × Nat × Bool)
  hd : List (Str × List Nat)
  fs : List (List Str)
  cl : List Str
  hot : List Str := []
/-- what isinstance and the reading of fields ask of an own class of exceptions -/
structure XcC (K : PySem.W.Frag) (C : Addr) : Prop where
  cl : (PySem.W.clsIn K C).isSome = true
  ga : PySem.W.findIn K (.ref C) "__getattribute__" = some (some (.builtin "BaseException.__getattribute__"))
  gg : PySem.W.findIn K (.ref C) "__getattr__" = some none
  su : PySem.W.subIn K (.ref C) (.type "BaseException") = some true
  hd : PySem.W.hasDictIn K C = true
  ha : PySem.W.findIn K (.ref C) "__class__" = some (some (.builtin "object.__class__"))
  hn : PySem.W.specialIn K (.builtin "object.__class__") "__get__" = some (some (.builtin "getset_descriptor.__get__"))
  ht : PySem.W.takesIn K (.builtin "object.__class__") = some true
  hm : PySem.W.mroIn K C (.type "object") = some true
/-- __init__(self, ..): each field is stored -/
def spIni (C : Addr) (f : List Str) : Sp := fun vs H Q E => ∃ a ws, vs = .ref a :: ws ∧ ws.length = f.length ∧ OexC0 C a H ∧
    (∀ dx H2, H dx = none → dx ≠ a → H2 a = some (exo a C (some dx)) → H2 dx = some (exd dx (f.zip ws).reverse) → (∀ b, b ≠ a → b ≠ dx → H2 b = H b) → Q .non H2)
where OexC0 (C a : Addr) (H : Hp) : Prop := H a = some (exo a C none)
/-- where a name of a class stands -/
def ClsAt (mg : Str → Option Value) (x : Str) (c : Value) : Prop := mg x = some c ∨ (mg x = none ∧ bootBuiltins x = some c ∧ x ≠ "__name__")
inductive Mk (P : Program) (w : World) (K : PySem.W.Frag) (mg : Str → Option Value) (base : Heap) (k : Nat) (C : Addr) (f : List Str) : Bool → Prop
  | own (fI : Addr) (fd : FuncData) (T : OexG K C) (iC : PySem.W.findIn K (.ref C) "__init__" = some (some (.ref fI))) (tI : PySem.W.typeIn K (.ref fI) = some (.type "function")) (j : Nat) (hj : j + 1 ≤ k)
      (F : FnOk P w K mg base (L2.CX P w) j fI fd ("self" :: f) (spIni C f)) (hb : Binds K fd ("self" :: f) []) : Mk P w K mg base k C f true
  | bare (bmB : List Value) (B newId initId : String) (F : ExcBaseFacts B newId initId bmB) (q : PySem.W.excIn K C bmB newId = true) (kC : PySem.W.keepIn K (.ref C) = true) (tC : PySem.W.typeIn K (.ref C) = some (.type "type")) (sC : PySem.W.subIn K (.ref C) (.type "BaseException") = some true) (hf : f = []) : Mk P w K mg base k C f false
structure Tab (P : Program) (w : World) (K : PySem.W.Frag) (mg : Str → Option Value) (base : Heap) (k : Nat) (cx : Cfx) (et : ETab) (sub : Nat → Str → Option Bool) : Prop where
  fs : ∀ kk A f, et kk = some (A, f) → cx.fs[kk]? = some f ∧ f.Nodup
  made : ∀ x kk b, cx.ex.contains (x, kk, b) = true → ∃ C f, et kk = some (C, f) ∧ mg x = some (.ref C) ∧ Mk P w K mg base k C f b
  hd : ∀ x ks, cx.hd.contains (x, ks) = true → ∃ c, ClsAt mg x c ∧ ∀ kk A f, et kk = some (A, f) → PySem.W.exmOne K (.ref A) c = some (ks.contains kk)
  isx : ∀ kk A f x b, cx.cl.contains x = true → et kk = some (A, f) → sub kk x = some b → ∃ c, ClsAt mg x c ∧ PySem.W.kitOne K (.ref A) c = some b
  xc : ∀ kk A f, et kk = some (A, f) → XcC K A ∧ ∀ n ∈ f, PySem.W.findIn K (.ref A) n = some none

section
variable {cx : Cfx} {et : ETab} {sub : Nat → Str → Option Bool} {k : Nat} {X : Cx} {W : WX}
/-! ### an exception is made -/
def tMk (et : ETab) (K : PySem.W.Frag) (W : WX) (n : Nat) (fs : Sl → Hc → R (List C)) (kk : Nat) : L2.St → Hp → XK → Prop := fun σ H Q => tA et K W fs σ H fun vs H1 => ∃ m h xs, Rl K m h H1 ∧ RVs K m H1 xs vs ∧ xs.length = n ∧ n ≤ 900 ∧
  ∀ m' H' cls d, Ext K m H1 m' H' → Rl K m' h H' → RX et K m' H' kk xs cls d → Q cls d H'
theorem zip_rel {K : PySem.W.Frag} : True := trivial
theorem mk_own {x : Str} {p pos : Pos} {e : Expr} {es : List Expr} {fs : Sl → Hc → R (List C)} {kk : Nat} {C : Addr} {f : List Str} (hr : Room k X.A) (hk : et kk = some (C, f)) (hm : X.mg x = some (.ref C)) (M : Mk X.prog X.w X.K X.mg X.base k C f true) (hg : Gl X x) (hdb : (x == ("__debug__" : Str)) = false)
    (ha : PA X (e :: es) (tA et X.K W fs)) (he : starEach (e :: es) X.env = (false, eval e X.env) :: starEach es X.env) (hpl : (backTo pos (starEach es X.env)).any (·.1) = false) :
    PMk X (.Call (.Name x p) (e :: es) [] pos) (tMk et X.K W f.length fs kk) := by
  cases M with
  | own fI fd T iC tI j hj F hb =>
    intro pins s σ H Q I q
    refine pmk_oexG T iC tI F (hr.mono hj) hb passL hg hm ha hdb he hpl pins s σ H Q I ?_
    obtain ⟨m, sl, h, rl, rs, q⟩ := q
    refine ⟨m, sl, h, rl, rs, q.imp fun m1 H1 cs vs h1 e1 x1 rl1 rv1 q1 => ?_⟩
    obtain ⟨m2, h2, xs, rl2, rv2, hl, hn, q2⟩ := q1
    refine ⟨by rw [← rv2.length, hl]; omega, fun a na => ?_⟩
    rw [List.append_nil]
    refine ⟨a, vs, rfl, by rw [← rv2.length, hl], upd_same, fun dx H2 n1 n2 e2 e3 e4 => ?_⟩
    have n3 : H1 dx = none := by rw [upd_ne n2] at n1; exact n1
    refine ⟨rfl, dx, _, e2, e3, n3, ?_⟩
    have eq : upd (del H2 a) dx (.xd (f.zip vs).reverse) = upd H1 dx (.xd (f.zip vs).reverse) := by
      funext b
      by_cases hb1 : b = dx
      · rw [hb1, upd_same, upd_same]
      · rw [upd_ne hb1, upd_ne hb1]
        by_cases hb2 : b = a
        · rw [hb2, del_same, na]
        · rw [del_ne hb2, e4 b hb2 hb1, upd_ne hb2]
    rw [eq]
    exact q2 m2 _ _ _ (Ext.new n3) (rl2.new n3) ⟨C, f, vs, hk, rfl, by rw [← rv2.length, hl], rv2.ext (Ext.new n3), .inr ⟨dx, rfl, upd_same, rl2.out n3⟩⟩
theorem mk_bare {x : Str} {p pos : Pos} {kk : Nat} {C : Addr} {f : List Str} (hk : et kk = some (C, f)) (hm : X.mg x = some (.ref C)) (M : Mk X.prog X.w X.K X.mg X.base k C f false) (hg : Gl X x) (hdb : (x == ("__debug__" : Str)) = false) :
    PMk X (.Call (.Name x p) [] [] pos) (fun σ H Q => Q (.ref C) none H) := by
  cases M with
  | bare bmB B newId initId F q kC tC sC hf =>
    intro pins s σ H Q I h
    refine wpAny_Call_Name_kw (ld_glob I hg hm ?_ hdb)
    refine PySem.W.callWith_K0 I.kIn kC ?_
    show wpAny _ _ (call (.ref C) []) _ _ _
    obtain ⟨bm, N, nm, qn, bs, hdct, sn, sub, ab, col, dd, k0, k1, k2, k3, k5, mN, hC, hN, hni, T⟩ := exc_obj I.kIn q
    refine wpAny_call_exc_subT F T hC hN hni (fun h' e hm => ?_) (by show 0 ≤ sizeLine; exact Nat.zero_le _)
    exact mk_of I hm (raises_own sC tC) h (I.hok.gone hm.new)

/-! ### what a clause tells of the exception that it holds -/
structure HotI (et : ETab) (K : PySem.W.Frag) (i : Nat) (a : Addr) (cls : Value) (d : Option Addr) (kk : Nat) (xs : List C) (m : List Addr) (sl : Sl) (h : Hc) (H : Hp) (σ : L2.St) : Prop where
  rl : Rl K m h H
  rs : RS K m H sl σ
  rx : RX et K m H kk xs cls d
  at_ : i < σ.length → σ[i]? = some (some (.ref a))
theorem HotI.ext {et : ETab} {K : PySem.W.Frag} {i : Nat} {a : Addr} {cls : Value} {d : Option Addr} {kk : Nat} {xs : List C} {m m' : List Addr} {sl : Sl} {h h' : Hc} {H H' : Hp} {σ : L2.St} (q : HotI et K i a cls d kk xs m sl h H σ) (e : Ext K m H m' H') (rl : Rl K m' h' H') : HotI et K i a cls d kk xs m' sl h' H' σ :=
  ⟨rl, q.rs.ext e, q.rx.ext e, q.at_⟩
def NX : Value → Option Addr → Hp → Prop := fun _ _ _ => False
def tH (et : ETab) (K : PySem.W.Frag) (i : Nat) (a : Addr) (cls : Value) (d : Option Addr) (kk : Nat) (xs : List C) (f : Sl → Hc → R C) : TE := fun σ H Q => ∃ m sl h, HotI et K i a cls d kk xs m sl h H σ ∧ Post et K NX m H (relV K) Q (f sl h)
def tHA (et : ETab) (K : PySem.W.Frag) (i : Nat) (a : Addr) (cls : Value) (d : Option Addr) (kk : Nat) (xs : List C) (f : Sl → Hc → R (List C)) : TA := fun σ H Q => ∃ m sl h, HotI et K i a cls d kk xs m sl h H σ ∧ Post et K NX m H (relVs K) Q (f sl h)
variable {i kk : Nat} {n : Str} {a : Addr} {cls : Value} {d : Option Addr} {oe : Obj} {pn : List (Addr × Obj)} {xs : List C} {e : Expr} {es : List Expr} {fa : Sl → Hc → R C} {fb : Sl → Hc → R C} {fs : Sl → Hc → R (List C)} {pos : Pos}
theorem h_of (h : PE (X.suite a ((a, oe) :: pn)) e (tE et X.K (fun _ _ _ _ => False) fa)) : PE (X.suite a ((a, oe) :: pn)) e (tH et X.K i a cls d kk xs fa) := h.imp fun σ H Q ⟨m, sl, h, q, p⟩ => ⟨m, sl, h, q.rl, q.rs, p⟩
theorem hA_nil : PA (X.suite a ((a, oe) :: pn)) [] (tHA et X.K i a cls d kk xs fun _ h => .ok [] h) := pa_nil.imp fun σ H Q ⟨m, sl, h, q, p⟩ => p m H [] Ext.refl q.rl rfl
theorem hA_cons (hs : starEach (e :: es) X.env = (false, eval e X.env) :: starEach es X.env) (ha : PE (X.suite a ((a, oe) :: pn)) e (tH et X.K i a cls d kk xs fa)) (hr : PA (X.suite a ((a, oe) :: pn)) es (tHA et X.K i a cls d kk xs fs)) :
    PA (X.suite a ((a, oe) :: pn)) (e :: es) (tHA et X.K i a cls d kk xs fun sl h => (fa sl h).bind fun x h1 => (fs sl h1).bind fun ys h2 => .ok (x :: ys) h2) :=
  (pa_cons ha hr hs).imp fun σ H Q ⟨m, sl, h, q, p⟩ => ⟨m, sl, h, q, p.bind fun x h1 e1 m1 H1 v x1 rl1 rv1 p1 =>
    ⟨m1, sl, h1, q.ext x1 rl1, p1.bind fun ys h2 e2 m2 H2 vs x2 rl2 rv2 p2 => p2 m2 H2 (v :: vs) Ext.refl rl2 ⟨v, vs, rfl, RV.ext x2 rv1, rv2⟩⟩⟩
theorem h_lst (h : PA (X.suite a ((a, oe) :: pn)) es (tHA et X.K i a cls d kk xs fs)) : PE (X.suite a ((a, oe) :: pn)) (.List es pos) (tH et X.K i a cls d kk xs fun sl h => (fs sl h).bind fun xs h1 => if xs.length ≤ lineN then .ok (.ref h1.length) (h1 ++ [xs]) else .bad) :=
  (pe_lst h).imp fun σ H Q ⟨m, sl, h, q, p⟩ => ⟨m, sl, h, q, p.bind fun xs h1 e1 m1 H1 vs x1 rl1 rv1 p1 => by
    have rv1 : RVs X.K m1 H1 xs vs := rv1
    split at p1
    · rename_i hz
      exact ⟨by rw [← rv1.length]; exact line_le hz, fun p' hp => p1 _ _ _ (Ext.newL hp) (rl1.newL hp rv1) (lst_laid rl1)⟩
    · exact False.elim p1⟩
theorem h_and {b : Expr} {rest : List Expr} (ha : PE (X.suite a ((a, oe) :: pn)) e (tH et X.K i a cls d kk xs fa)) (hb : PE (X.suite a ((a, oe) :: pn)) (.BoolOp .And (b :: rest) pos) (tH et X.K i a cls d kk xs fb)) :
    PE (X.suite a ((a, oe) :: pn)) (.BoolOp .And (e :: b :: rest) pos) (tH et X.K i a cls d kk xs fun sl h => (fa sl h).bind fun x h1 => match x with
      | .bl true => fb sl h1
      | .bl false => .ok (.bl false) h1
      | _ => .bad) :=
  (pe_and ha hb).imp fun σ H Q ⟨m, sl, h, q, p⟩ => ⟨m, sl, h, q, p.bind fun x h1 e1 m1 H1 v x1 rl1 rv1 p1 => by
    cases x with
    | bl k =>
      cases rv1
      cases k with
      | true => exact ⟨true, rfl, ⟨m1, sl, h1, q.ext x1 rl1, p1⟩⟩
      | false => exact ⟨false, rfl, p1 m1 H1 _ Ext.refl rl1 rfl⟩
    | non => exact False.elim p1
    | int _ => exact False.elim p1
    | str _ => exact False.elim p1
    | tup _ => exact False.elim p1
    | ref _ => exact False.elim p1
    | frz _ => exact False.elim p1
    | rep _ => exact False.elim p1⟩
/-- the name of the clause -/
theorem h_name {p : Pos} (hi : X.N[i]? = some n) (hln : X.env.kindOf n = some .local) (hd : (n == ("__debug__" : Str)) = false) (hcd : (n == ("__classdict__" : Str)) = false) {R : V → Hp → Prop} {pins : List (Addr × Obj)} {σ : L2.St} {H : Hp} {s : Shared}
    (I : Inv (X.suite a ((a, oe) :: pn)) pins σ H s) (at_ : i < σ.length → σ[i]? = some (some (.ref a))) (q : R (.ref a) H) : wpAny (model X.prog X.w) (X.suite a ((a, oe) :: pn)).A (eval (.Name n p) X.env) (EP (X.suite a ((a, oe) :: pn)) pins σ R) (fun _ _ => False) s := by
  have hl : i < σ.length := by
    rw [I.len]
    exact (List.getElem?_eq_some_iff.mp hi).1
  exact (pe_var (X := X.suite a ((a, oe) :: pn)) (i := i) hi (.inl hln) hd hcd).run pins s σ H R I ⟨_, at_ hl, q⟩
theorem lookup_mem {α : Type} : ∀ {l : List (Str × α)} {f : Str} {v : α}, (l.map (·.1)).Nodup → (f, v) ∈ l → l.lookup f = some v
  | [], f, v, _, h => by cases h
  | (g, u) :: l, f, v, hn, h => by
    rw [List.map_cons, List.nodup_cons] at hn
    rw [List.lookup_cons]
    rcases List.mem_cons.mp h with e | e
    · cases e
      simp
    · have : f ≠ g := by
        rintro rfl
        exact hn.1 (List.mem_map.mpr ⟨_, e, rfl⟩)
      rw [show (f == g) = false from by simpa using this]
      exact lookup_mem hn.2 e
theorem zip_lookup {fs : List Str} {vs : List V} {j : Nat} {f : Str} {v : V} (hn : fs.Nodup) (hl : fs.length = vs.length) (h1 : fs[j]? = some f) (h2 : vs[j]? = some v) : (fs.zip vs).reverse.lookup f = some v := by
  refine lookup_mem ?_ ?_
  · rw [List.map_reverse, List.map_fst_zip (Nat.le_of_eq hl)]
    exact (List.reverse_perm fs).nodup_iff.mpr hn
  · rw [List.mem_reverse]
    refine List.mem_of_getElem? (i := j) ?_
    rw [List.getElem?_zip_eq_some]
    exact ⟨h1, h2⟩
theorem h_fld {j : Nat} {f : Str} {p1 q : Pos} (T : Tab X.prog X.w X.K X.mg X.base k cx et sub) (hz : Zc cls d oe) (hf : ∃ vs, oe.data = .fields vs) (hi : X.N[i]? = some n) (hln : X.env.kindOf n = some .local) (hd : (n == ("__debug__" : Str)) = false) (hcd : (n == ("__classdict__" : Str)) = false)
    (hj : ∀ f', cx.fs[kk]? = some f' → f'[j]? = some f) :
    PE (X.suite a ((a, oe) :: pn)) (.Attribute (.Name n p1) f q) (tH et X.K i a cls d kk xs fun _ h => match xs[j]? with
      | some c => .ok c h
      | none => .bad) := by
  refine ⟨fun pins s σ H Q I ⟨m, sl, h, g, p⟩ => ?_⟩
  obtain ⟨A, fs, vs, h1, h2, h3, h4, h5⟩ := id g.rx
  obtain ⟨f1, f2⟩ := T.fs _ _ _ h1
  obtain ⟨c1, c2⟩ := T.xc _ _ _ h1
  have hj' := hj _ f1
  cases hx : xs[j]? with
  | none =>
    rw [hx] at p
    exact False.elim p
  | some c =>
    rw [hx] at p
    obtain ⟨v, e1, e2⟩ := h4.get hx
    rcases h5 with ⟨h5, _⟩ | ⟨dd, hd1, hd2, hd3⟩
    · rw [h5] at hj'
      cases hj'
    · have he : PE (X.suite a ((a, oe) :: pn)) (.Name n p1) (fun σ H Q => (i < σ.length → σ[i]? = some (some (.ref a))) ∧ Q (.ref a) H) := ⟨fun pins s σ H Q I q => h_name hi hln hd hcd I q.1 q.2⟩
      refine (pe_xf (C := A) ⟨c1.ga, c1.gg, c1.su, c1.hd⟩ (c2 f (List.mem_of_getElem? hj')) hz hf he).run pins s σ H Q I ?_
      exact ⟨g.at_, rfl, h2, dd, _, v, hd1, hd2, zip_lookup f2 h3 hj' e1, p m H v Ext.refl g.rl e2⟩
theorem h_is {x : Str} {p p2 p3 : Pos} (T : Tab X.prog X.w X.K X.mg X.base k cx et sub) (hz : Zc cls d oe) (hf : ∃ vs, oe.data = .fields vs) (hi : X.N[i]? = some n) (hln : X.env.kindOf n = some .local) (hd : (n == ("__debug__" : Str)) = false) (hcd : (n == ("__classdict__" : Str)) = false)
    (hg : Gl X "isinstance") (hm : X.mg "isinstance" = none) (hgx : Gl X x) (hdx : (x == ("__debug__" : Str)) = false) (hcl : cx.cl.contains x = true) :
    PE (X.suite a ((a, oe) :: pn)) (.Call (.Name "isinstance" p3) [.Name n p, .Name x p2] [] pos) (tH et X.K i a cls d kk xs fun _ h => match sub kk x with
      | some b => .ok (.bl b) h
      | none => .bad) := by
  refine ⟨fun pins s σ H Q I ⟨m, sl, h, g, p⟩ => ?_⟩
  obtain ⟨A, fs, vs, h1, h2, h3, h4, h5⟩ := id g.rx
  subst h2
  obtain ⟨c1, c2⟩ := T.xc _ _ _ h1
  cases hx : sub kk x with
  | none =>
    rw [hx] at p
    exact False.elim p
  | some b =>
    rw [hx] at p
    obtain ⟨c, k1, k2⟩ := T.isx _ _ _ _ _ hcl h1 hx
    refine wpAny_Call_Name_kw (ld_blt I hg hm PyProof.Rows.boot_isinstance ?_ (by decide) (by decide))
    refine PyProof.Rows.callWith_builtin1 (args_cons (thn (h_name (R := fun x H' => x = .ref a ∧ H' = H) hi hln hd hcd I g.at_ ⟨rfl, rfl⟩) fun u s1 ⟨x1, H1, I1, r1, e1, e2⟩ => ?_) rfl) rfl rfl
    subst e1
    subst e2
    obtain rfl : u = Value.ref a := r1
    refine args_cons ?_ rfl
    have fin : ∀ (s2 : Shared), Inv (X.suite a ((a, oe) :: pn)) pins σ H1 s2 → wpAny (model X.prog X.w) (X.suite a ((a, oe) :: pn)).A (call (.builtin "isinstance") [.ref a, c]) (EP (X.suite a ((a, oe) :: pn)) pins σ Q) (fun _ _ => False) s2 := fun s2 I2 => by
      obtain ⟨hget, _⟩ := I2.pin (a, oe) (List.mem_append.mpr (.inl List.mem_cons_self))
      obtain ⟨vs', hv⟩ := hf
      have J : ∃ od, PySem.W.InstAt s2.heap a oe A od := by
        rcases h5 with ⟨_, h5⟩ | ⟨dd, hd1, hd2, hd3⟩
        · exact ⟨none, hget, hz.1, by unfold PySem.W.notCls; rw [hv] <;> rfl, by rw [hz.2, h5]; trivial⟩
        · obtain ⟨mA, hns, hr⟩ := (I2.hok dd _ hd2 : ObjOk X.prog X.w H1 s2.heap dd (.xd (fs.zip vs).reverse))
          obtain ⟨od, ho, hl⟩ := lookIn_ns hns
          exact ⟨some od, hget, hz.1, by unfold PySem.W.notCls; rw [hv] <;> rfl, by rw [hz.2, hd1]; exact ho⟩
      obtain ⟨od, J⟩ := J
      exact PySem.W.kia_one (PySem.W.kitx_exc c1.cl c1.ga c1.gg c1.su c1.ha c1.hn c1.ht c1.hm) I2.kIn J k2 (fun z => nomatch z) fun tk => ⟨.bl b, H1, I2.kept (t' := tk) fun _ _ z => z, rfl, p m H1 _ Ext.refl g.rl rfl⟩
    rcases k1 with k1 | ⟨k1, k3, k4⟩
    · exact ld_glob I1 hgx k1 (args_nil (fin _ I1)) hdx
    · exact ld_blt I1 hgx k1 k3 (args_nil (fin _ I1)) k4 hdx
theorem h_repr {p : Pos} (hgu : X.A.guards = some []) (hu : X.A.units + 70 < cLine) (hg : Gl X "repr") (hm : X.mg "repr" = none) (hs : starEach [e] X.env = (false, eval e X.env) :: starEach [] X.env) (ha : PE (X.suite a ((a, oe) :: pn)) e (tH et X.K i a cls d kk xs fa)) :
    PE (X.suite a ((a, oe) :: pn)) (.Call (.Name "repr" p) [e] [] pos) (tH et X.K i a cls d kk xs fun sl h => ((fa sl h).bind fun x h1 => Sh.R.bind (.ok [] h1) fun ys h2 => .ok (x :: ys) h2).bind fun xs h1 => bi .repr xs h1) := by
  refine ⟨fun pins s σ H Q I h => ?_⟩
  obtain ⟨r, hr, ok⟩ := bi_ok (X := X.suite a ((a, oe) :: pn)) (et := et) (W := NX) .repr (.inr rfl) hgu hu
  refine (pe_callB hr hg hm (by decide +kernel) (hA_cons (fs := fun _ h => .ok [] h) hs ha hA_nil) (by decide) (by decide) hs rfl).run pins s σ H Q I ?_
  obtain ⟨m, sl, h, g, p⟩ := h
  exact ⟨m, sl, h, g, p.bind fun xs h1 e1 m1 H1 vs x1 rl1 rv1 p1 => ok m1 H1 h1 xs vs Q rl1 rv1 p1⟩
end
end Sh
set_option Elab.async false
set_option linter.all false
set_option autoImplicit false
set_option maxRecDepth 100000
set_option maxHeartbeats 8000000
/-! Sh, part K2: a def that a clause hands its exception to, and that asks for its classes. -/
namespace Sh
open PySem PySem.Spec PyProof.Rows L2
section
variable {et : ETab} {sub : Nat → Str → Option Bool} {k : Nat} {X : Cx} {pos : Pos}
theorem run_hot {x qual : Str} {st : Stmt} {f : Addr} {fd : FuncData} {N ps : List Str} {pins : List (Addr × Obj)} {σ : L2.St} {H : Hp} {s : Shared} {Q : VK} {us : List Value} {vs : List V} {p : Addr × Obj}
    (F : Fun X.K x qual st f fd) (S : FnScope N ps (defScope st)) (hr : L2H.RoomH 1 X.A) (hb : Binds X.K fd ps []) (hp : p ∈ X.pn) (I : Inv X pins σ H s) (r : Vals vs us) (hl : vs.length = ps.length)
    (hbody : ∀ cdv : Value, ∃ t, PSs (L2H.cxH (L2.CX X.prog X.w) X.prog X.w X.K X.mg X.base N qual (defScope st) f cdv X.A X.stack s H (fun _ _ _ => False) p) (defBody st) t ∧ t { nx := fun _ H' => Q .non H', rt := Q } (L2.start N vs) H) :
    wpAny (model X.prog X.w) X.A (call (.ref f) us) (EP X pins σ Q) X.xe s := by
  obtain ⟨oc, od, kV, doc, pm, an, cdv, ct, osl, rfl, lk, hcd⟩ := F.ex
  have hlu : us.length = ps.length := by rw [← r.length]; exact hl
  have b := hb s us I.kIn (by rw [List.append_nil]; exact hlu)
  rw [List.append_nil] at b
  have P1 := I.pin p (List.mem_append_left _ hp)
  have hpin : L2H.PinOk X.stack H s p := ⟨P1.1, P1.2.1, fun hm => (List.mem_cons.mp (I.stkSub p.1 hm)).elim P1.2.2.1 P1.2.2.2.1, P1.2.2.2.2⟩
  have e0 := I.env0
  have KX : X.K.In s.heap := e0.mod.kin.keeps fun b o e => (e0.bs b o e).1
  have lim : s.heap.NoLimit := e0.mod.nolimit.keeps fun b o e => (e0.bs b o e).1
  have hkind : ∀ y ∈ ps.zip us, (defScope st).names.lookup y.1 = some .local ∨ ((defScope st).names.lookup y.1 = some .cell ∧ ((cellsFrom (s.heap.objs.size + 1) (defScope st).names []).lookup y.1).isSome = true) := fun ⟨n, v⟩ hy => by
    rcases S.par n (List.of_mem_zip hy).1 with q | q
    · exact .inl q
    · exact .inr ⟨q, PySem.W.cellsFrom_some _ _ _ (.inl q)⟩
  refine wpAny_call (codeAny_mono (R := L2.CR (L2.CX X.prog X.w) X.stack X.prog X.w H s Q (fun _ _ _ => False)) ?_ fun r s' hq => ?_)
  · refine codeAny_call_function hr.depth (KX _ _ lk) rfl S.co S.gen rfl (PySem.W.codeRec_of KX hcd) (b _ _ _ _ ?_)
    refine wpAny_newFunctionEnv_cells S.kind hkind fun env he s1 x => ?_
    subst he
    refine ⟨lim.keeps x.toInCall.keep, codeAny_func ?_⟩
    obtain ⟨t, ht, hq⟩ := hbody cdv
    have I2 : Inv (L2H.cxH (L2.CX X.prog X.w) X.prog X.w X.K X.mg X.base N qual (defScope st) f cdv X.A X.stack s H (fun _ _ _ => False) p) [] (L2.start N vs) H s1 := L2H.inv_startH S hpin e0 hl r x
    refine wpAny_mono (ht.run [] s1 (L2.start N vs) H _ I2 hq) (fun fl s' hs => ?_) fun e s' hs => hs
    have fin : ∀ {σ' : L2.St} {H' : Hp} {v : V} {u : Value}, Inv (L2H.cxH (L2.CX X.prog X.w) X.prog X.w X.K X.mg X.base N qual (defScope st) f cdv X.A X.stack s H (fun _ _ _ => False) p) [] σ' H' s' → RelV v u → Q v H' → L2.CE X.stack X.prog X.w H s Q u s' :=
      fun {σ' H' v u} J rv q => ⟨v, H', J.os, J.bare, J.base, J.hok, rv, q⟩
    cases fl with
    | ret u =>
      obtain ⟨v, σ', H', J, rv, q⟩ := hs
      exact fin J rv q
    | next =>
      obtain ⟨σ', H', J, q⟩ := hs
      exact fin (v := V.non) (u := Value.none) J rfl q
    | brk =>
      obtain ⟨_, _, _, q⟩ := hs
      exact False.elim q
    | cont =>
      obtain ⟨_, _, _, q⟩ := hs
      exact False.elim q
  · cases r with
    | error e =>
      obtain ⟨_, _, _, _, _, _, _, _, _, _, _, _, z⟩ := hq
      exact False.elim z
    | ok fl =>
      cases fl with
      | ret u => exact I.after hq
      | next => exact False.elim hq
      | brk => exact False.elim hq
      | cont => exact False.elim hq
/-- a class asked of an exception that a name holds -/
theorem y_is {Y : Cx} {n z : Str} {a A : Addr} {oe : Obj} {cls c : Value} {d : Option Addr} {i kk : Nat} {xs : List C} {m : List Addr} {b : Bool} {p p2 p3 : Pos} (hY : (a, oe) ∈ Y.pn) (hz : Zc cls d oe) (hf : ∃ vs, oe.data = .fields vs) (c1 : XcC Y.K A) (hA : ∀ A' f, et kk = some (A', f) → A' = A)
    (k1 : ClsAt Y.mg z c) (k2 : PySem.W.kitOne Y.K (.ref A) c = some b) (hi : Y.N[i]? = some n) (hln : Y.env.kindOf n = some .local) (hd : (n == ("__debug__" : Str)) = false) (hcd : (n == ("__classdict__" : Str)) = false)
    (hg : Gl Y "isinstance") (hm : Y.mg "isinstance" = none) (hgx : Gl Y z) (hdx : (z == ("__debug__" : Str)) = false) :
    PE Y (.Call (.Name "isinstance" p3) [.Name n p, .Name z p2] [] pos) (fun σ H Q => σ[i]? = some (some (.ref a)) ∧ RX et Y.K m H kk xs cls d ∧ Q (.bl b) H) := by
  refine ⟨fun pins s σ H Q I ⟨at_, rx, q⟩ => ?_⟩
  obtain ⟨A', fs, vs, h1, h2, h3, h4, h5⟩ := rx
  obtain rfl := hA _ _ h1
  subst h2
  refine wpAny_Call_Name_kw (ld_blt I hg hm PyProof.Rows.boot_isinstance ?_ (by decide) (by decide))
  refine PyProof.Rows.callWith_builtin1 (args_cons (thn ((pe_var (X := Y) (i := i) hi (.inl hln) hd hcd).run pins s σ H (fun x H' => x = .ref a ∧ H' = H) I ⟨_, at_, rfl, rfl⟩) fun u s1 ⟨x1, H1, I1, r1, e1, e2⟩ => ?_) rfl) rfl rfl
  subst e1
  subst e2
  obtain rfl : u = Value.ref a := r1
  refine args_cons ?_ rfl
  have fin : ∀ (s2 : Shared), Inv Y pins σ H1 s2 → wpAny (model Y.prog Y.w) Y.A (call (.builtin "isinstance") [.ref a, c]) (EP Y pins σ Q) Y.xe s2 := fun s2 I2 => by
    obtain ⟨hget, _⟩ := I2.pin (a, oe) (List.mem_append.mpr (.inl hY))
    obtain ⟨vs', hv⟩ := hf
    have J : ∃ od, PySem.W.InstAt s2.heap a oe A' od := by
      rcases h5 with ⟨_, h5⟩ | ⟨dd, hd1, hd2, hd3⟩
      · exact ⟨none, hget, hz.1, by unfold PySem.W.notCls; rw [hv] <;> rfl, by rw [hz.2, h5]; trivial⟩
      · obtain ⟨mA, hns, hr⟩ := (I2.hok dd _ hd2 : ObjOk Y.prog Y.w H1 s2.heap dd (.xd (fs.zip vs).reverse))
        obtain ⟨od, ho, hl⟩ := lookIn_ns hns
        exact ⟨some od, hget, hz.1, by unfold PySem.W.notCls; rw [hv] <;> rfl, by rw [hz.2, hd1]; exact ho⟩
    obtain ⟨od, J⟩ := J
    exact PySem.W.kia_one (PySem.W.kitx_exc c1.cl c1.ga c1.gg c1.su c1.ha c1.hn c1.ht c1.hm) I2.kIn J k2 (fun z => nomatch z) fun tk => ⟨.bl b, H1, I2.kept (t' := tk) fun _ _ z => z, rfl, q⟩
  rcases k1 with k1 | ⟨k1, k3, k4⟩
  · exact ld_glob I1 hgx k1 (args_nil (fin _ I1)) hdx
  · exact ld_blt I1 hgx k1 k3 (args_nil (fin _ I1)) k4 hdx
/-- def x(y): return isinstance(y, A) and isinstance(y, B) -/
def hotBody (y A B : Str) : List Stmt → Bool
  | [.Return (some (.BoolOp .And [.Call (.Name f1 _) [.Name y1 _, .Name A1 _] [] _, .Call (.Name f2 _) [.Name y2 _, .Name B2 _] [] _] _)) _] => f1 == "isinstance" && f2 == "isinstance" && y1 == y && y2 == y && A1 == A && B2 == B
  | _ => false
structure HotF (K : PySem.W.Frag) (mg : Str → Option Value) (et : ETab) (sub : Nat → Str → Option Bool) (x : Str) (f : Addr) (fd : FuncData) (st : Stmt) (y A B : Str) : Prop where
  hm : mg x = some (.ref f)
  F : Fun K x x st f fd
  hb : Binds K fd [y] []
  S : FnScope [y] [y] (defScope st)
  body : hotBody y A B (defBody st) = true
  hd : (y == ("__debug__" : Str)) = false
  hcd : (y == ("__classdict__" : Str)) = false
  hy : (defScope st).names.lookup y = some .local
  gi : (defScope st).names.lookup ("isinstance" : Str) = some .globalImplicit
  gA : (defScope st).names.lookup A = some .globalImplicit
  gB : (defScope st).names.lookup B = some .globalImplicit
  dA : (A == ("__debug__" : Str)) = false
  dB : (B == ("__debug__" : Str)) = false
  mi : mg "isinstance" = none
  kA : ∃ c, ClsAt mg A c ∧ ∃ c', ClsAt mg B c' ∧ ∀ kk Ad fs b, et kk = some (Ad, fs) → sub kk x = some b → ∃ b1 b2, PySem.W.kitOne K (.ref Ad) c = some b1 ∧ PySem.W.kitOne K (.ref Ad) c' = some b2 ∧ b = (b1 && b2)
theorem h_hot {cx : Cfx} {i kk : Nat} {n x y A B : Str} {a f : Addr} {fd : FuncData} {st : Stmt} {cls : Value} {d : Option Addr} {oe : Obj} {pn : List (Addr × Obj)} {xs : List C} {p p3 pos : Pos} (T : Tab X.prog X.w X.K X.mg X.base k cx et sub) (hz : Zc cls d oe) (hf : ∃ vs, oe.data = .fields vs) (hi : X.N[i]? = some n) (hln : X.env.kindOf n = some .local) (hd : (n == ("__debug__" : Str)) = false) (hcd : (n == ("__classdict__" : Str)) = false)
    (hr : L2H.RoomH 1 (X.suite a ((a, oe) :: pn)).A) (hgx : Gl X x) (hdx : (x == ("__debug__" : Str)) = false) (hF : HotF X.K X.mg et sub x f fd st y A B) :
    PE (X.suite a ((a, oe) :: pn)) (.Call (.Name x p3) [.Name n p] [] pos) (tH et X.K i a cls d kk xs fun _ h => match sub kk x with
      | some b => .ok (.bl b) h
      | none => .bad) := by
  refine ⟨fun pins s σ H Q I ⟨m, sl, h, g, q⟩ => ?_⟩
  obtain ⟨Ad, fs, vs, h1, h2, h3, h4, h5⟩ := id g.rx
  obtain ⟨c1, c2⟩ := T.xc _ _ _ h1
  cases hx : sub kk x with
  | none =>
    rw [hx] at q
    exact False.elim q
  | some b =>
    rw [hx] at q
    obtain ⟨c, kA, c', kB, hk⟩ := hF.kA
    obtain ⟨b1, b2, e1, e2, e3⟩ := hk _ _ _ _ h1 hx
    have he : PE (X.suite a ((a, oe) :: pn)) (.Name n p) (fun σ H Q => (i < σ.length → σ[i]? = some (some (.ref a))) ∧ Q (.ref a) H) := ⟨fun pins s σ H Q I q => h_name hi hln hd hcd I q.1 q.2⟩
    have ha := pa_cons he (pa_nil (X := X.suite a ((a, oe) :: pn))) rfl
    refine wpAny_Call_Name_kw (ld_glob I hgx hF.hm ?_ hdx)
    refine PySem.W.callWith_K (h₀ := X.base) I.ok.mod.kin hF.F.kp (thn (ha.run pos pins s σ H (fun vs H' => vs = [.ref a] ∧ H' = H) I ⟨g.at_, rfl, rfl⟩) fun us s1 ⟨ws, H1, I1, r, e4, e5⟩ => ⟨I1.kIn, ?_⟩) rfl rfl
    subst e4 e5
    show wpAny _ _ (call (.ref f) us) _ _ _
    refine run_hot hF.F hF.S hr hF.hb (p := (a, oe)) List.mem_cons_self I1 r rfl fun cdv => ?_
    have hB := hF.body
    generalize hbd : defBody st = bd at hB
    unfold hotBody at hB
    split at hB
    · rename_i f1 _ y1 _ A1 _ _ f2 _ y2 _ B2 _ _ _ _
      obtain ⟨hB, z6⟩ := two hB
      obtain ⟨hB, z5⟩ := two hB
      obtain ⟨hB, z4⟩ := two hB
      obtain ⟨hB, z3⟩ := two hB
      obtain ⟨z1, z2⟩ := two hB
      obtain rfl := beq_iff_eq.mp z1
      obtain rfl := beq_iff_eq.mp z2
      obtain rfl := beq_iff_eq.mp z3
      obtain rfl := beq_iff_eq.mp z4
      obtain rfl := beq_iff_eq.mp z5
      obtain rfl := beq_iff_eq.mp z6
      have hA : ∀ A' f, et kk = some (A', f) → A' = Ad := fun A' f z => by rw [h1] at z; cases z; rfl
      refine ⟨_, pss_one (ps_ret (pe_and (y_is (et := et) (kk := kk) (xs := xs) (m := m) (i := 0) (oe := oe) (a := a) List.mem_cons_self hz hf c1 hA kA e1 rfl hF.hy hF.hd hF.hcd hF.gi hF.mi hF.gA hF.dA) (pe_one (y_is (et := et) (kk := kk) (xs := xs) (m := m) (i := 0) (oe := oe) (a := a) List.mem_cons_self hz hf c1 hA kB e2 rfl hF.hy hF.hd hF.hcd hF.gi hF.mi hF.gB hF.dB)))), ?_⟩
      refine ⟨rfl, g.rx, b1, rfl, ?_⟩
      have fin : Q (.bl b) H1 := q m H1 _ Ext.refl g.rl rfl
      cases b1 with
      | true =>
        rw [if_pos rfl]
        refine ⟨rfl, g.rx, ?_⟩
        rw [e3] at fin
        exact fin
      | false =>
        rw [if_neg (by decide)]
        rw [e3] at fin
        exact fin
    · cases hB
end
end Sh
set_option Elab.async false
set_option linter.all false
set_option autoImplicit false
set_option maxRecDepth 100000
set_option maxHeartbeats 8000000
/-! Sh, part L: every matched statement does what the plain one tells. -/
namespace Sh
open PySem PySem.Spec PyProof.Rows L2

def noComp : Expr → Bool
  | .ListComp _ _ _ _ => false
  | .SetComp _ _ _ _ => false
  | .DictComp _ _ _ _ _ => false
  | _ => true
theorem swaps_no {e : Expr} {t : Option Expr} {l : Nat} {env : Env} (h : noComp e = true) : swapsWith e t l env = pure false := by
  cases e <;> first | rfl | cases h
/-- a comprehension whose value is not stored before its names are gone: the name is a cell -/
def noSw (cf : Cfg) (tg e : Expr) : Bool := match tg with
  | .Name y _ => match e with
    | .ListComp _ _ _ _ => !(cf.kind y == some .local)
    | _ => false
  | _ => match e with
    | .ListComp _ _ _ _ => true
    | _ => false
def isStar : Expr → Bool
  | .Starred _ _ => true
  | _ => false
def locName (cf : Cfg) : Expr → Bool
  | .Name x _ => cf.kind x == some .local
  | _ => false
def swN (cf : Cfg) (tg e : Expr) : Bool := match tg with
  | .Tuple ts _ _ => match e with
    | .Tuple vs _ _ => !(ts.length == 2 || ts.length == 3) || vs.all (foldedForSure 8) || ts.any fun t => !(locName cf t)
    | _ => true
  | .Name _ _ => true
  | .Subscript _ _ _ => true
  | _ => false
theorem fm_lt {α β : Type} {f : α → Option β} : ∀ {l : List α}, (∃ x ∈ l, f x = none) → (l.filterMap f).length < l.length
  | [], ⟨x, h, _⟩ => by cases h
  | a :: l, ⟨x, h, e⟩ => by
    rw [List.filterMap_cons]
    cases q : f a with
    | none => exact Nat.lt_succ_of_le (List.length_filterMap_le _ _)
    | some b =>
      rcases List.mem_cons.mp h with rfl | h
      · rw [e] at q; cases q
      · exact Nat.succ_lt_succ (fm_lt ⟨x, h, e⟩)
theorem sw_none {cf : Cfg} {tg e : Expr} {env : Env} (hk : ∀ x, env.kindOf x = cf.kind x) (h : swN cf tg e = true) : swappedStores [tg] e env = pure none := by
  cases tg <;> first | rfl | (cases h; done) | skip
  rename_i ts k p
  cases e <;> first | rfl | skip
  rename_i vs k2 p2
  have h : (!(ts.length == 2 || ts.length == 3) || vs.all (foldedForSure 8) || ts.any fun t => !(locName cf t)) = true := h
  unfold swappedStores
  dsimp only
  cases h1 : (!(ts.length == 2 || ts.length == 3)) with
  | true =>
    simp [h1]
  | false =>
    rw [h1] at h
    cases h2 : vs.all (foldedForSure 8) with
    | true =>
      simp only [h2]
      split
      · rfl
      · split
        · rfl
        · split
          · rfl
          · rfl
    | false =>
      rw [h2] at h
      have h3 : (ts.any fun t => !(locName cf t)) = true := h
      obtain ⟨t, ht, hl⟩ := List.any_eq_true.mp h3
      have hl := noB hl
      split
      · rfl
      · split
        · rfl
        · split
          · rfl
          · rename_i hn
            exfalso
            apply hn
            refine Bool.or_eq_true_iff.mpr (.inl ?_)
            refine bne_iff_ne.mpr (Nat.ne_of_lt (fm_lt ⟨t, ht, ?_⟩))
            cases t <;> try rfl
            rename_i x px _
            have hx : (env.kindOf x == some NameKind.local) = false := by
              rw [hk x]
              exact hl
            simp [hx]
def parB (px py : Pos) (x y : Str) (a b : Expr) : Bool := noStar a && noStar b && py.line == px.line && !(x == y) && !([a, b].all (foldedForSure 8)) && !([a, b].all (constantsAlone 8))
theorem two' {a b : Bool} (h : (a && b) = true) : a = true ∧ b = true := Bool.and_eq_true_iff.mp h
theorem sw_some {x y : Str} {px py pt pt2 : Pos} {kt k2 : Nat} {a b : Expr} {env : Env} (h : parB px py x y a b = true) (hb : env.blockKind = .function) (hx : env.kindOf x = some .local) (hy : env.kindOf y = some .local) :
    swappedStores [.Tuple [.Name x px, .Name y py] kt pt] (.Tuple [a, b] k2 pt2) env = pure (some [x, y]) := by
  obtain ⟨h, h6⟩ := two' h
  obtain ⟨h, h5⟩ := two' h
  obtain ⟨h, h4⟩ := two' h
  obtain ⟨h, h3⟩ := two' h
  obtain ⟨h1, h2⟩ := two' h
  have e5 := noB h5
  have e6 := noB h6
  have e4 : x ≠ y := by simpa using h4
  have e3 : py.line = px.line := by simpa using h3
  have key : ∀ f : Expr → Bool, f a = false → f b = false → [a, b].any f = false := fun f q r => by
    show (f a || (f b || false)) = false
    rw [q, r]; rfl
  unfold swappedStores
  dsimp only
  have ne4 : (x == y) = false := by simpa using e4
  have ne5 : (y == x) = false := by simpa using fun z : y = x => e4 z.symm
  rw [key _ (by cases a <;> first | rfl | cases h1) (by cases b <;> first | rfl | cases h2), e5, e6]
  simp [hb, hx, hy, e3, ne4, ne5, Expr.pos, List.eraseDups, List.eraseDupsBy, List.eraseDupsBy.loop]

/-! ### matchers -/
mutual
def mH (cx : Cfx) (n : Str) (ks : List Nat) : E → Expr → Bool
  | .con c => fun e => match e with
    | .Constant k _ _ => conIs k c
    | _ => false
  | .excf j => fun e => match e with
    | .Attribute o f _ => match o with
      | .Name x _ => x == n && ks.all fun kk => match cx.fs[kk]? with
        | some fs => fs[j]? == some f
        | none => true
      | _ => false
    | _ => false
  | .excis y => fun e => match e with
    | .Call fn args kws _ => match fn with
      | .Name f _ => match args with
        | [l, r] => match l with
          | .Name x _ => match r with
            | .Name z _ => kws.isEmpty && decide (f = "isinstance") && freeB cx.cf f && x == n && z == y && glB cx.cf z && cx.cl.contains z
            | _ => false
          | _ => false
        | [l] => match l with
          | .Name x _ => kws.isEmpty && x == n && f == y && glB cx.cf f && cx.hot.contains f
          | _ => false
        | _ => false
      | _ => false
    | _ => false
  | .andv a b => fun e => match e with
    | .BoolOp op l p => match l with
      | x :: l => decide (op = .And) && (mH cx n ks a x && andTail (mH cx n ks b) .And p l)
      | [] => false
    | _ => false
  | .bi .repr (.cons a .nil) => fun e => match e with
    | .Call fn args kws _ => match fn with
      | .Name f _ => match args with
        | [l] => kws.isEmpty && decide (f = "repr") && freeB cx.cf f && noStar l && mH cx n ks a l
        | _ => false
      | _ => false
    | _ => false
  | .lst es => fun e => match e with
    | .List l _ => mHs cx n ks es l
    | _ => false
  | _ => fun _ => false
def mHs (cx : Cfx) (n : Str) (ks : List Nat) : Es → List Expr → Bool
  | .nil => fun l => l.isEmpty
  | .cons a es => fun l => match l with
    | x :: l => noStar x && (mH cx n ks a x && mHs cx n ks es l)
    | [] => false
end
def locL (cf : Cfg) (i : Nat) (x : Str) : Bool := cf.N[i]? == some x && cf.kind x == some .local
mutual
def mS (cx : Cfx) : S → Stmt → Bool
  | .asg p a => fun s => match s with
    | .Assign tgs e _ => match tgs with
      | [tg] => (noComp e || noSw cx.cf tg e) && swN cx.cf tg e && noStar tg && (mP p cx.cf tg && mE a cx.cf e)
      | _ => false
    | _ => false
  | .par i j a b => fun s => match s with
    | .Assign tgs e _ => match tgs with
      | [tg] => match tg with
        | .Tuple ts _ _ => match ts with
          | [t1, t2] => match t1 with
            | .Name x px => match t2 with
              | .Name y py => match e with
                | .Tuple es _ _ => match es with
                  | [l, r] => parB px py x y l r && decide (i ≠ j) && locL cx.cf i x && locL cx.cf j y && (mE a cx.cf l && mE b cx.cf r)
                  | _ => false
                | _ => false
              | _ => false
            | _ => false
          | _ => false
        | _ => false
      | _ => false
    | _ => false
  | .aug i o a => fun s => match s with
    | .AugAssign tg op e _ => match tg with
      | .Name x _ => decide (op = opr o) && locB cx.cf i x && mE a cx.cf e
      | _ => false
    | _ => false
  | .setc i a => fun s => match s with
    | .Assign tgs e _ => match tgs with
      | [tg] => match tg with
        | .Name y py => match e with
          | .ListComp _ _ scope pos => locL cx.cf i y && py.line == pos.line && !(scope.names.any fun (n, k) => n == y && (k == .local || k == .cell)) && mE a cx.cf e
          | _ => false
        | _ => false
      | _ => false
    | _ => false
  | .app o a => fun s => match s with
    | .Expr c _ => match c with
      | .Call fn args kws cpos => match fn with
        | .Attribute ob nm apos => match args with
          | [e] => kws.isEmpty && decide (nm = "append") && isName ob && apos.endLine == cpos.line && noStar e && (mE o cx.cf ob && mE a cx.cf e)
          | _ => false
        | _ => false
      | _ => false
    | _ => false
  | .augi o i op a => fun s => match s with
    | .AugAssign tg op' e _ => match tg with
      | .Subscript l r _ => decide (op' = opr op) && noSlice r && (mE o cx.cf l && (mE i cx.cf r && mE a cx.cf e))
      | _ => false
    | _ => false
  | .ifs t a b => fun s => match s with
    | .If c p q _ => mT t cx.cf c && (mSs cx a p && mSs cx b q)
    | _ => false
  | .whl t b => fun s => match s with
    | .While c p q _ => q.isEmpty && (mT t cx.cf c && mSs cx b p)
    | _ => false
  | .for_ p it b => fun s => match s with
    | .For tg iter bd q _ => q.isEmpty && notSet iter && (mP p cx.cf tg && ((mI it cx.cf iter && okTg it tg) && mSs cx b bd))
    | _ => false
  | .ret a => fun s => match s with
    | .Return v _ => match v with
      | some e => mE a cx.cf e
      | none => false
    | _ => false
  | .retn => fun s => match s with
    | .Return v _ => v.isNone
    | _ => false
  | .expr a => fun s => match s with
    | .Expr e _ => noComp e && mE a cx.cf e
    | _ => false
  | .raise kk es => fun s => match s with
    | .Raise v c _ => match c with
      | none => match v with
        | some v => match v with
          | .Call fn args kws _ => match fn with
            | .Name x _ => match args with
              | [] => kws.isEmpty && glB cx.cf x && cx.ex.contains (x, kk, false) && es.len == 0
              | _ :: _ => kws.isEmpty && glB cx.cf x && cx.ex.contains (x, kk, true) && (match cx.fs[kk]? with | some f => f.length == es.len && decide (f.length ≤ 900) | none => false) && mEs es cx.cf args
            | _ => false
          | _ => false
        | none => false
      | some _ => false
    | _ => false
  | .brk => fun s => match s with
    | .Break _ => true
    | _ => false
  | .cnt => fun s => match s with
    | .Continue _ => true
    | _ => false
  | .pass => fun s => match s with
    | .Pass _ => true
    | _ => false
  | .try_ b hs => fun s => match s with
    | .Try body hds orelse fin _ => orelse.isEmpty && fin.isEmpty && !hds.isEmpty && (mSs cx b body && mHd cx hs hds)
    | _ => false
def mSs (cx : Cfx) : Ss → List Stmt → Bool
  | .nil => fun l => l.isEmpty
  | .cons s ss => fun l => match l with
    | x :: l => mS cx s x && mSs cx ss l
    | [] => false
def mHd (cx : Cfx) : Hs → List ExceptHandler → Bool
  | .nil => fun l => l.isEmpty
  | .cons ks i b hs => fun l => match l with
    | h :: l => (match h with
      | .ExceptHandler ty nm suite _ => match ty with
        | some ty => match ty with
          | .Name x _ => match nm with
            | some n => match suite with
              | [st] => match st with
                | .Return v _ => match v with
                  | some e => glB cx.cf x && cx.hd.contains (x, ks) && locL cx.cf i n && !(n == ("__debug__" : Str)) && !(n == ("__classdict__" : Str)) && (match b with
                    | .cons (.ret a) .nil => mH cx n ks a e
                    | _ => false)
                  | none => false
                | _ => false
              | _ => false
            | none => false
          | _ => false
        | none => false) && mHd cx hs l
    | [] => false
end

structure GoodX (cx : Cfx) (et : ETab) (call : Nat → List C → Hc → R C) (sub : Nat → Str → Option Bool) (k : Nat) (X : Cx) (W : WX) : Prop where
  base : Good cx.cf et call k X W
  tab : Tab X.prog X.w X.K X.mg X.base k cx et sub
  stack : X.stack = X.env :: X.outer
  frame : X.env.frame = some X.env.locals
  bk : X.env.blockKind = .function
  po : PassesOwn (model X.prog X.w) X.A X.env X.xe
  hot : ∀ x, cx.hot.contains x = true → 1 ≤ k ∧ ∃ f fd st y A B, HotF X.K X.mg et sub x f fd st y A B

section
variable {cx : Cfx} {et : ETab} {call : Nat → List C → Hc → R C} {sub : Nat → Str → Option Bool} {w : Nat} {k : Nat} {X : Cx} {W : WX}
theorem GoodX.tr (g : GoodX cx et call sub k X W) {W' : WX} {pn : List (Addr × Obj)} {xe : Value → Shared → Prop} (tk : Takes (X.tr pn xe) W') (po : PassesOwn (model X.prog X.w) X.A X.env xe) : GoodX cx et call sub k (X.tr pn xe) W' :=
  ⟨⟨g.base.N, g.base.nd, g.base.kind, g.base.fnc, g.base.sk, g.base.calm, g.base.room, g.base.gu, tk, g.base.bn, g.base.gcd, g.base.con, g.base.fn⟩, g.tab, g.stack, g.frame, g.bk, po, g.hot⟩

/-! ### clauses -/
mutual
theorem mH_ok (g : GoodX cx et call sub k X W) {i : Nat} {n : Str} {ks : List Nat} {a' : Addr} {oe : Obj} {cls : Value} {d : Option Addr} {pn : List (Addr × Obj)} {kk : Nat} {xs : List C} (hz : Zc cls d oe) (hf : ∃ vs, oe.data = .fields vs) (hi : X.N[i]? = some n) (hln : X.env.kindOf n = some .local) (hd : (n == ("__debug__" : Str)) = false) (hcd : (n == ("__classdict__" : Str)) = false)
    (hk : ks.contains kk = true) : ∀ (e : E) (ex : Expr), mH cx n ks e ex = true → PE (X.suite a' ((a', oe) :: pn)) ex (tH et X.K i a' cls d kk xs (E.ev call sub w (some (kk, xs)) e))
  | .con c, ex, h => by
    cases ex <;> try (cases h; done)
    rename_i cst _ _
    replace h : conIs cst c = true := h
    refine h_of ?_
    cases cst <;> cases c <;> try (cases h; done)
    · exact sE_const pe_non fun _ _ => rfl
    · rename_i b1 b2
      obtain rfl : b1 = b2 := beq_iff_eq.mp h
      exact sE_const pe_bl fun _ _ => rfl
    · rename_i b1 b2
      obtain rfl : b1 = b2 := beq_iff_eq.mp h
      exact sE_const pe_int fun _ _ => rfl
    · rename_i b1 b2
      obtain rfl : b1 = b2 := beq_iff_eq.mp h
      exact sE_const pe_str fun _ _ => rfl
  | .excf j, ex, h => by
    cases ex <;> try (cases h; done)
    rename_i o f p
    cases o <;> try (cases h; done)
    rename_i x p1
    obtain ⟨h1, h2⟩ := two h
    obtain rfl : x = n := beq_iff_eq.mp h1
    refine h_fld g.tab hz hf hi hln hd hcd fun f' hf' => ?_
    have := List.all_eq_true.mp h2 kk (by simpa using hk)
    rw [hf'] at this
    exact beq_iff_eq.mp this
  | .excis y, ex, h => by
    cases ex <;> try (cases h; done)
    rename_i fn args kws pos
    cases fn <;> try (cases h; done)
    rename_i f p
    match args, h with
    | [], h => cases h
    | [l], h =>
      cases l <;> try (cases h; done)
      rename_i x px
      obtain ⟨h, h5⟩ := two h
      obtain ⟨h, h4⟩ := two h
      obtain ⟨h, h3⟩ := two h
      obtain ⟨h1, h2⟩ := two h
      obtain rfl : x = n := beq_iff_eq.mp h2
      obtain rfl : f = y := beq_iff_eq.mp h3
      obtain ⟨q1, q2, q3⟩ := g.base.gl h4
      obtain ⟨k1, ff, fd, st, y', A, B, hF⟩ := g.hot _ h5
      cases kws with
      | cons _ _ => cases h1
      | nil => exact h_hot g.tab hz hf hi hln hd hcd (L2H.roomH_mark (g.base.room.mono k1) _) q1 q2 hF
    | _ :: _ :: _ :: _, h => cases h
    | [l, r], h =>
      cases l <;> try (cases h; done)
      cases r <;> try (cases h; done)
      rename_i x px z pz
      obtain ⟨h, h7⟩ := two h
      obtain ⟨h, h6⟩ := two h
      obtain ⟨h, h5⟩ := two h
      obtain ⟨h, h4⟩ := two h
      obtain ⟨h, h3⟩ := two h
      obtain ⟨h1, h2⟩ := two h
      have := of_decide_eq_true h2
      subst this
      obtain rfl : x = n := beq_iff_eq.mp h4
      obtain rfl : z = y := beq_iff_eq.mp h5
      obtain ⟨f1, f2, f3, f4⟩ := g.base.free h3
      obtain ⟨q1, q2, q3⟩ := g.base.gl h6
      cases kws with
      | cons _ _ => cases h1
      | nil => exact h_is g.tab hz hf hi hln hd hcd f1 f2 q1 q2 h7
  | .andv a b, ex, h => by
    cases ex <;> try (cases h; done)
    rename_i op l p
    match l, h with
    | [], h => cases h
    | x :: l, h =>
      obtain ⟨h1, h23⟩ := two h
      have := of_decide_eq_true h1
      subst this
      obtain ⟨h2, h3⟩ := two h23
      obtain ⟨y, r, rfl, hb⟩ := bool_tail (X := X.suite a' ((a', oe) :: pn)) h3 fun e he => mH_ok g (a' := a') (oe := oe) (pn := pn) (xs := xs) hz hf hi hln hd hcd hk b e he
      exact h_and (mH_ok g hz hf hi hln hd hcd hk a x h2) hb
  | .bi .repr (.cons a .nil), ex, h => by
    cases ex <;> try (cases h; done)
    rename_i fn args kws pos
    cases fn <;> try (cases h; done)
    rename_i f p
    match args, h with
    | [], h => cases h
    | _ :: _ :: _, h => cases h
    | [l], h =>
      obtain ⟨h, h5⟩ := two h
      obtain ⟨h, h4⟩ := two h
      obtain ⟨h, h3⟩ := two h
      obtain ⟨h1, h2⟩ := two h
      have := of_decide_eq_true h2
      subst this
      obtain ⟨f1, f2, f3, f4⟩ := g.base.free h3
      cases kws with
      | cons _ _ => cases h1
      | nil => exact h_repr g.base.gu g.base.units f1 f2 (star_of h4) (mH_ok g hz hf hi hln hd hcd hk a l h5)
  | .lst es, ex, h => by
    cases ex <;> try (cases h; done)
    exact h_lst (mHs_ok g hz hf hi hln hd hcd hk es _ h)
  | .var _, ex, h => by cases h
  | .glob _ _, ex, h => by cases h
  | .bin _ _ _, ex, h => by cases h
  | .neg _, ex, h => by cases h
  | .notv _, ex, h => by cases h
  | .cmp _ _ _, ex, h => by cases h
  | .chain _ _ _ _ _, ex, h => by cases h
  | .orv _ _, ex, h => by cases h
  | .ite _ _ _, ex, h => by cases h
  | .tup _, ex, h => by cases h
  | .idx _ _, ex, h => by cases h
  | .slc _ _ _, ex, h => by cases h
  | .call _ _, ex, h => by cases h
  | .callk _ _ _ _, ex, h => by cases h
  | .isi _ _, ex, h => by cases h
  | .pop _, ex, h => by cases h
  | .revs _, ex, h => by cases h
  | .comp _ _ _ _, ex, h => by cases h
  | .bi .repr .nil, ex, h => by cases h
  | .bi .repr (.cons _ (.cons _ _)), ex, h => by cases h
  | .bi .len _, ex, h => by cases h
  | .bi .abs _, ex, h => by cases h
  | .bi .max2 _, ex, h => by cases h
  | .bi .min2 _, ex, h => by cases h
  | .bi .sum _, ex, h => by cases h
  | .bi .gcd _, ex, h => by cases h
  | .bi .divmod _, ex, h => by cases h
  | .bi .tuple _, ex, h => by cases h
  | .bi .list _, ex, h => by cases h
  | .bi .maxL _, ex, h => by cases h
  | .bi .minL _, ex, h => by cases h
  | .bi .int _, ex, h => by cases h
  | .bi .bool _, ex, h => by cases h
  | .bi .all _, ex, h => by cases h
  | .bi .any _, ex, h => by cases h
theorem mHs_ok (g : GoodX cx et call sub k X W) {i : Nat} {n : Str} {ks : List Nat} {a : Addr} {oe : Obj} {cls : Value} {d : Option Addr} {pn : List (Addr × Obj)} {kk : Nat} {xs : List C} (hz : Zc cls d oe) (hf : ∃ vs, oe.data = .fields vs) (hi : X.N[i]? = some n) (hln : X.env.kindOf n = some .local) (hd : (n == ("__debug__" : Str)) = false) (hcd : (n == ("__classdict__" : Str)) = false)
    (hk : ks.contains kk = true) : ∀ (es : Es) (l : List Expr), mHs cx n ks es l = true → PA (X.suite a ((a, oe) :: pn)) l (tHA et X.K i a cls d kk xs (Es.ev call sub w (some (kk, xs)) es))
  | .nil, l, h => by
    cases l with
    | nil => exact hA_nil
    | cons _ _ => cases h
  | .cons a es, l, h => by
    cases l with
    | nil => cases h
    | cons x l =>
      obtain ⟨h1, h2⟩ := two h
      obtain ⟨h2, h3⟩ := two h2
      exact hA_cons (star_of h1) (mH_ok g hz hf hi hln hd hcd hk a x h2) (mHs_ok g hz hf hi hln hd hcd hk es l h3)
end
end
end Sh
set_option Elab.async false
set_option linter.all false
set_option autoImplicit false
set_option maxRecDepth 100000
set_option maxHeartbeats 8000000
/-! Sh, part M: statements. -/
namespace Sh
open PySem PySem.Spec PyProof.Rows L2

section
variable {cx : Cfx} {et : ETab} {call : Nat → List C → Hc → R C} {sub : Nat → Str → Option Bool} {w : Nat} {k : Nat} {X : Cx} {W : WX}
theorem Good.locL {cf : Cfg} (g : Good cf et call k X W) {i : Nat} {x : Str} (h : locL cf i x = true) : X.N[i]? = some x ∧ Loc X.env.scope x ∧ X.env.scope.names.lookup x = some .local ∧ X.N.Nodup := by
  obtain ⟨h1, h2⟩ := two h
  have q : X.env.scope.names.lookup x = cf.kind x := g.kind x
  have h3 := q.trans (beq_iff_eq.mp h2)
  exact ⟨by rw [g.N]; exact beq_iff_eq.mp h1, .inl h3, h3, by rw [g.N]; exact g.nd⟩
theorem locK (g : GoodX cx et call sub k X W) {i : Nat} {n : Str} (h : locL cx.cf i n = true) : X.N[i]? = some n ∧ X.env.kindOf n = some .local := by
  obtain ⟨q1, q2, q3, q4⟩ := g.base.locL h
  exact ⟨q1, q3⟩
theorem mHd_ok (g : GoodX cx et call sub k X W) : ∀ (hs : Hs) (l : List ExceptHandler), mHd cx hs l = true → ∃ L, HdsAs X l L ∧
    ∀ (D : Ends) (kk : Nat) (xs : List C) (sl : Sl) (h : Hc) (m : List Addr) (H : Hp) (σ : L2.St) (cls : Value) (d : Option Addr), Rl X.K m h H → RS X.K m H sl σ → RX et X.K m H kk xs cls d → PostS et X.K W D m H (Hs.ev call sub w hs kk xs sl h) → wAsM X.K W D L cls d σ H
  | .nil, l, h => by
    cases l with
    | cons _ _ => cases h
    | nil => exact ⟨[], .nil, fun D kk xs sl h m H σ cls d rl rs rx p => p m H σ cls d Ext.refl rl rs rx⟩
  | .cons ks i b hs, l, h => by
    cases l with
    | nil => cases h
    | cons hd l =>
      obtain ⟨h1, h2⟩ := two h
      obtain ⟨L, hL, ih⟩ := mHd_ok g hs l h2
      cases hd with
      | ExceptHandler ty nm suite pos' =>
        cases ty with
        | none => cases h1
        | some ty =>
          cases ty <;> try (cases h1; done)
          rename_i x np
          cases nm with
          | none => cases h1
          | some n =>
            match suite, h1 with
            | [], h1 => cases h1
            | _ :: _ :: _, h1 => cases h1
            | [st], h1 =>
              cases st <;> try (cases h1; done)
              rename_i v rp
              cases v with
              | none => cases h1
              | some e =>
                have q6 := (two h1).2
                replace h1 := (two h1).1
                have q5 := (two h1).2
                replace h1 := (two h1).1
                have q4 := (two h1).2
                replace h1 := (two h1).1
                have q3 := (two h1).2
                replace h1 := (two h1).1
                have q2 := (two h1).2
                replace h1 := (two h1).1
                have q1 := h1
                clear h1
                obtain ⟨f1, f2, f3⟩ := g.base.gl q1
                obtain ⟨c, c1, c2⟩ := g.tab.hd x ks q2
                obtain ⟨e1, e2⟩ := locK g q3
                cases b with
                | nil => cases q6
                | cons s0 ss =>
                  cases s0 <;> try (cases q6; done)
                  rename_i a0
                  cases ss with
                  | cons _ _ => cases q6
                  | nil =>
                    refine ⟨(c, i, fun a cls d => fun D σ H => ∃ kk xs m sl h, ks.contains kk = true ∧ HotI et X.K i a cls d kk xs m sl h H σ ∧ PostS et X.K (fun _ _ _ _ => False) D m H ((E.ev call sub w (some (kk, xs)) a0 sl h).th sl fun c h1 => .ret c h1)) :: L, .cons e1 e2 ⟨f1, f2, c1⟩ (fun a oe cls d pn hz hf => ?_) hL, ?_⟩
                    · refine ⟨fun pins s σ H D I ⟨kk, xs, m, sl, h, hk, q, p⟩ => ?_⟩
                      refine (pss_one (ps_ret (mH_ok (w := w) g (kk := kk) (xs := xs) hz hf e1 e2 (noB q4) (noB q5) hk a0 e q6))).run pins s σ H D I ⟨m, sl, h, q, ?_⟩
                      exact PostS.th p q.rs fun c h1 e1 m1 H1 v x1 rl1 rv1 p1 => p1 m1 H1 v Ext.refl rl1 rv1
                    · intro D kk xs sl h m H σ cls d rl rs rx p
                      obtain ⟨A, fs, vs, r1, r2, r3, r4, r5⟩ := id rx
                      subst r2
                      have p : PostS et X.K W D m H (if ks.contains kk then
                          (match Ss.ev call sub w (.cons (.ret a0) .nil) (some (kk, xs)) (sl.set i none) h with
                            | .nx sl2 h2 => .nx (sl2.set i none) h2
                            | .ret c h2 => .ret c h2
                            | .bk sl2 h2 => .bk (sl2.set i none) h2
                            | .ct sl2 h2 => .ct (sl2.set i none) h2
                            | _ => .bad)
                        else Hs.ev call sub w hs kk xs sl h) := p
                      refine ⟨ks.contains kk, c2 _ _ _ r1, fun hk a na => ?_, fun hk => ?_⟩
                      · rw [if_pos hk] at p
                        refine ⟨kk, xs, m, sl.set i none, h, hk, ⟨rl, rs.setNone i _, rx, fun hi => List.getElem?_set_self (by simpa using hi)⟩, ?_⟩
                        have e0 : Ss.ev call sub w (.cons (.ret a0) .nil) (some (kk, xs)) (sl.set i none) h = ((E.ev call sub w (some (kk, xs)) a0 (sl.set i none) h).th (sl.set i none) fun c h1 => RS'.ret c h1).th fun sl1 h1 => .nx sl1 h1 := rfl
                        rw [e0] at p
                        cases e3 : E.ev call sub w (some (kk, xs)) a0 (sl.set i none) h with
                        | ok c h1 => rw [e3] at p; exact p
                        | err _ _ _ => rw [e3] at p; exact False.elim p
                        | bad => rw [e3] at p; exact False.elim p
                      · rw [hk, if_neg Bool.false_ne_true] at p
                        exact ih D kk xs sl h m H σ (.ref A) d rl rs rx p

/-! ### statements -/
section
variable {tg e c v : Expr} {body orelse : List Stmt} {pos : Pos} {fe fv : Sl → Hc → R C} {fg : C → Sl → Hc → R Sl} {ft : Sl → Hc → R Bool} {fa fb : Sl → Hc → RS'} {fs : Sl → Hc → R (List C)}
theorem sw_cell (g : GoodX cx et call sub k X W) {l : Nat} (h : (noComp e || noSw cx.cf tg e) = true) : swapsWith e (some tg) l X.env = pure false := by
  rcases Bool.or_eq_true_iff.mp h with h | h
  · exact swaps_no h
  · cases e <;> try (cases tg <;> cases h; done)
    rename_i elt gens scope pos
    cases tg <;> try rfl
    rename_i y py
    have h : (!(cx.cf.kind y == some .local)) = true := h
    have hk : (X.env.kindOf y == some .local) = false := by
      rw [g.base.kind y]
      exact noB h
    unfold swapsWith
    simp only [hk]
    simp
theorem sS_asg (g : GoodX cx et call sub k X W) (h1 : ∀ l, swapsWith e (some tg) l X.env = pure false) (h2 : swN cx.cf tg e = true) (h3 : noStar tg = true) (he : PE X e (tE et X.K W fe)) (hg : PG X tg (tG et X.K fg)) : PS X (.Assign [tg] e pos) (tS et X.K W fun sl h => (fe sl h).th sl fun c h1 => (fg c sl h1).noerr.th sl fun sl1 h2 => .nx sl1 h2) :=
  (ps_asg he hg (h1 _) (sw_none g.base.kind h2) (by rw [asg_of h3]; rfl)).imp fun D σ H ⟨m, sl, h, rl, rs, p⟩ => ⟨m, sl, h, rl, rs, PostS.th p rs fun c h1 e1 m1 H1 v x1 rl1 rv1 p1 =>
    ⟨m1, sl, h1, c, rl1, rs.ext x1, rv1, Post.noerr (PostS.th (rel := relS X.K) (Q := D.nx) p1 (rs.ext x1) fun sl2 h2 e2 m2 H2 σ2 x2 rl2 rs2 p2 => p2 m2 H2 σ2 Ext.refl rl2 rs2)⟩⟩
theorem sS_par (g : GoodX cx et call sub k X W) {i j : Nat} {x y : Str} {a b : Expr} {px py pt pt2 : Pos} {kt k2 : Nat} (hp : parB px py x y a b = true) (hij : i ≠ j) (hx : locL cx.cf i x = true) (hy : locL cx.cf j y = true) (ha : PE X a (tE et X.K W fe)) (hb : PE X b (tE et X.K W fv)) :
    PS X (.Assign [.Tuple [.Name x px, .Name y py] kt pt] (.Tuple [a, b] k2 pt2) pos) (tS et X.K W fun sl h => (fe sl h).th sl fun x h1 => (fv sl h1).th sl fun y h2 => .nx ((sl.set i (some x)).set j (some y)) h2) := by
  obtain ⟨q1, q2, q3, q4⟩ := g.base.locL hx
  obtain ⟨r1, r2, r3, r4⟩ := g.base.locL hy
  have hp' := hp
  obtain ⟨hp', _⟩ := two hp'
  obtain ⟨hp', _⟩ := two hp'
  obtain ⟨hp', _⟩ := two hp'
  obtain ⟨hp', _⟩ := two hp'
  obtain ⟨s1, s2⟩ := two hp'
  refine (ps_par g.base.calm q4 q1 r1 hij q3 r3 (pa_cons ha (pa_cons hb pa_nil (star_of s2)) (star_of s1)) (sw_some hp g.bk q3 r3) rfl).imp fun D σ H ⟨m, sl, h, rl, rs, p⟩ => ?_
  refine ⟨m, sl, h, rl, rs, PostS.th p rs fun x h1 e1 m1 H1 v x1 rl1 rv1 p1 => ⟨m1, sl, h1, rl1, rs.ext x1, PostS.th p1 (rs.ext x1) fun y h2 e2 m2 H2 u x2 rl2 rv2 p2 => ⟨v, u, rfl, ?_⟩⟩⟩
  exact p2 m2 H2 _ Ext.refl rl2 ((((rs.ext x1).ext x2).set i (RV.ext x2 rv1)).set j rv2)
theorem ip_mulX : PIp X .Mult (rI CMulX fun i j => .int (i * j)) := fun pins s σ H x y v u Q I r1 r2 h => (opI (X := X) (f := inplaceOp .Mult) fun _ _ _ _ _ _ _ hc q => imul_int q hc.ok) pins s σ H x y v u Q I r1 r2 h
theorem aug_ok (o : Op) : ∃ ti, PIp X (opr o) ti ∧ ∀ (Wx : Value → Option Addr → Hp → Prop) (m : List Addr) (H : Hp) (h : Hc) (i j : Int) (Q : VK), Rl X.K m h H → Post et X.K Wx m H (relV X.K) Q (augC o i j h) → ti (.int i) (.int j) H Q := by
  cases o with
  | add => exact ⟨_, ip_add, fun Wx m H h i j Q rl p => ⟨i, j, rfl, rfl, p m H _ Ext.refl rl rfl⟩⟩
  | sub => exact ⟨_, ip_sub, fun Wx m H h i j Q rl p => ⟨i, j, rfl, rfl, p m H _ Ext.refl rl rfl⟩⟩
  | mul =>
    refine ⟨_, ip_mulX, fun Wx m H h i j Q rl p => ?_⟩
    unfold augC at p
    simp only at p
    split at p
    · exact False.elim p
    · rename_i hb
      have hb' : tooBig i = false ∧ tooBig j = false := by
        cases h1 : tooBig i <;> cases h2 : tooBig j <;> simp_all
      exact ⟨i, j, rfl, rfl, mulx_ok (a := 60000) (b := 60000) (small_of hb'.1) (small_of hb'.2) (by omega), p m H _ Ext.refl rl rfl⟩
  | div => exact ⟨fun _ _ _ _ => False, fun _ _ _ _ _ _ _ _ _ _ _ _ h => h.elim, fun Wx m H h i j Q rl p => p⟩
  | mod => exact ⟨fun _ _ _ _ => False, fun _ _ _ _ _ _ _ _ _ _ _ _ h => h.elim, fun Wx m H h i j Q rl p => p⟩
  | pow => exact ⟨fun _ _ _ _ => False, fun _ _ _ _ _ _ _ _ _ _ _ _ h => h.elim, fun Wx m H h i j Q rl p => p⟩
theorem sS_aug (g : GoodX cx et call sub k X W) {i : Nat} {x : Str} {o : Op} {pos' : Pos} (hx : locB cx.cf i x = true) (he : PE X e (tE et X.K W fe)) : PS X (.AugAssign (.Name x pos') (opr o) e pos) (tS et X.K W fun sl h => match sl[i]? with
    | some (some x) => (fe sl h).th sl fun y h1 => (match x, y with
      | .int a, .int b => (augC o a b h1).th sl fun z h2 => .nx (sl.set i (some z)) h2
      | _, _ => .bad)
    | _ => .bad) := by
  obtain ⟨q1, q2, q3, q4⟩ := g.base.loc hx
  obtain ⟨ti, ho, ok⟩ := aug_ok (X := X) (et := et) o
  refine (ps_aug q4 q1 q2 he ho q3).imp fun D σ H ⟨m, sl, h, rl, rs, p⟩ => ?_
  dsimp only at p
  cases e1 : sl[i]? with
  | none => rw [e1] at p; exact False.elim p
  | some o' =>
    cases o' with
    | none => rw [e1] at p; exact False.elim p
    | some x =>
      rw [e1] at p
      obtain ⟨v, s1, s2⟩ := rs.at_ i x e1
      refine ⟨v, s1, m, sl, h, rl, rs, PostS.th p rs fun y h1 e2 m1 H1 u x1 rl1 rv1 p1 => ?_⟩
      cases x <;> cases y <;> try (exact False.elim p1)
      rename_i a b
      cases s2
      cases rv1
      exact ok (fun c d H' => W c d σ H') m1 H1 h1 a b _ rl1 (PostS.th p1 (rs.ext x1) fun z h2 e3 m2 H2 t x2 rl2 rv2 p2 => p2 m2 H2 _ Ext.refl rl2 (((rs.ext x1).ext x2).set i rv2))
theorem sS_ifs (hc : PT X c (tT et X.K W ft)) (ha : PSs X body (tS et X.K W fa)) (hb : PSs X orelse (tS et X.K W fb)) : PS X (.If c body orelse pos) (tS et X.K W fun sl h => (ft sl h).th sl fun k h1 => if k then fa sl h1 else fb sl h1) := by
  refine (ps_if hc ha hb).imp fun D σ H ⟨m, sl, h, rl, rs, p⟩ => ⟨m, sl, h, rl, rs, PostS.th p rs fun k h1 e1 m1 H1 v x1 rl1 rv1 p1 => ?_⟩
  cases rv1
  cases k with
  | true => exact ⟨m1, sl, h1, rl1, rs.ext x1, p1⟩
  | false => exact ⟨m1, sl, h1, rl1, rs.ext x1, p1⟩
theorem sS_ret (he : PE X e (tE et X.K W fe)) : PS X (.Return (some e) pos) (tS et X.K W fun sl h => (fe sl h).th sl fun c h1 => .ret c h1) :=
  (ps_ret he).imp fun D σ H ⟨m, sl, h, rl, rs, p⟩ => ⟨m, sl, h, rl, rs, PostS.th p rs fun c h1 e1 m1 H1 v x1 rl1 rv1 p1 => p1 m1 H1 v Ext.refl rl1 rv1⟩
theorem sS_expr (h1 : noComp e = true) (he : PE X e (tE et X.K W fe)) : PS X (.Expr e pos) (tS et X.K W fun sl h => (fe sl h).th sl fun c h1 => .nx sl h1) :=
  (ps_expr he (swaps_no h1)).imp fun D σ H ⟨m, sl, h, rl, rs, p⟩ => ⟨m, sl, h, rl, rs, PostS.th p rs fun c h1 e1 m1 H1 v x1 rl1 rv1 p1 => p1 m1 H1 σ Ext.refl rl1 (rs.ext x1)⟩
end
theorem sS_app {o : Expr} {apos cpos : Pos} {fo fa : Sl → Hc → R C} {e : Expr} {pos : Pos} (hb : isName o = true) (hl : (apos.endLine == cpos.line) = true) (hs : noStar e = true) (ho : PE X o (tE et X.K W fo)) (ha : PE X e (tE et X.K W fa)) :
    PS X (.Expr (.Call (.Attribute o "append" apos) [e] [] cpos) pos) (tS et X.K W fun sl h => (fo sl h).th sl fun x h1 => (match x with
    | .ref n => (fa sl h1).th sl fun y h2 => (match h2[n]? with
      | some xs => if xs.length < lineN then .nx sl (h2.set n (xs ++ [y])) else .bad
      | none => .bad)
    | _ => .bad)) := by
  have hA : PA X [e] (tCons (tE et X.K W fa) tNil) := pa_cons ha pa_nil (star_of hs)
  refine (ps_expr (pe_bm PySem.F.plainAttrs_list PySem.F.slot_list_append PySem.F.type_list_append mt_append ho hA (base_of hb) (by rw [star_of hs]; rfl) hl (star_of hs) rfl) rfl).imp fun D σ H ⟨m, sl, h, rl, rs, p⟩ => ⟨m, sl, h, rl, rs, PostS.th p rs fun x h1 e1 m1 H1 v x1 rl1 rv1 p1 => ?_⟩
  cases x <;> try (exact False.elim p1)
  rename_i n
  obtain ⟨a, q1, rfl⟩ := rv1
  obtain ⟨cs0, vs0, _, q2, _⟩ := rl1.get q1
  refine ⟨.inl ⟨rfl, vs0, SqL.of q2⟩, m1, sl, h1, rl1, rs.ext x1, PostS.th p1 (rs.ext x1) fun y h2 e2 m2 H2 u x2 rl2 rv2 p2 => ?_⟩
  have q1' := x2.pre _ _ q1
  obtain ⟨cs, vs, e3, q3, q4⟩ := rl2.get q1'
  rw [e3] at p2
  dsimp only at p2
  split at p2
  · rename_i hz
    have ex : Ext X.K m2 H2 m2 (upd H2 a (.lst (vs ++ [u]))) := Ext.write (List.mem_of_getElem? q1') q3
    refine ⟨a, vs, u, rfl, rfl, q3, by rw [← q4.length]; exact line_lt hz, ?_⟩
    exact p2 m2 _ σ ex (rl2.write q1' q3 (RVs.append q4 (RVs.one rv2))) (((rs.ext x1).ext x2).ext ex)
  · exact False.elim p2
theorem get_lst : PGet X (rIxL X.K) := by
  intro pins s σ H x y v u Q I rx ry h
  obtain ⟨p, xs, i, z, rfl, rfl, hq, he, q⟩ := h
  cases rx
  obtain ⟨t, rfl⟩ := ry
  obtain ⟨its, r, pl, hz⟩ := I.list hq
  obtain ⟨j, h1, h2, h3, h4, h5⟩ := atI_get he
  obtain ⟨w, ew, rw'⟩ := r.get h2
  have hl := r.length
  have hn := line63
  have done_ : EP X pins σ Q w s := ⟨z, H, I, rw', q⟩
  by_cases h0 : 0 ≤ i
  · have hj : i.toNat = j := by
      rw [seqIndex_of h0 h5] at h1
      exact Option.some.inj h1
    exact wpAny_getItem_list pl.isList h0 (by omega) (by rw [hj]; simpa using ew) done_
  · have hj : (i + (its.toArray.size : Int)).toNat = j := by
      rw [seqIndex_neg (by omega) h4] at h1
      rw [List.size_toArray, ← hl]
      exact Option.some.inj h1
    exact wpAny_getItem_list_neg pl.isList (by omega) (by rw [List.size_toArray] <;> omega) (by omega) (by rw [hj]; simpa using ew) done_
theorem item_lst {Wx : Value → Option Addr → Hp → Prop} {m : List Addr} {H : Hp} {h : Hc} {n : Nat} {y : C} {v u : V} {Q : VK} (rl : Rl X.K m h H) (rx : RV X.K m H (.ref n) v) (ry : RV X.K m H y u) (p : Post et X.K Wx m H (relV X.K) Q (item (.ref n) y h)) : rIxL X.K v u H Q := by
  cases y <;> try (exact False.elim p)
  rename_i i
  unfold item at p
  simp only at p
  split at p
  · rename_i xs e1
    split at p
    · rename_i c e2
      obtain ⟨a, q1, rfl⟩ := rx
      obtain ⟨vs, q2, q⟩ := rl.at_ _ _ _ q1 e1
      have hl := q.length
      cases hj : ixC xs.length i with
      | none => rw [hj] at e2; cases e2
      | some j =>
        rw [hj] at e2
        have e3 : xs[j]? = some c := e2
        obtain ⟨w, w1, w2⟩ := q.get e3
        have e4 : atI vs i = some w := by
          unfold atI
          rw [← hl, ← ixC_eq, hj]
          exact w1
        exact ⟨a, vs, i, w, rfl, ry, SqL.of q2, e4, p m H _ Ext.refl rl w2⟩
    · exact False.elim p
  · exact False.elim p
theorem sS_augi {o i e : Expr} {op : Op} {tpos pos : Pos} {fo fi fe : Sl → Hc → R C} (hi : noSlice i = true) (ho : PE X o (tE et X.K W fo)) (hii : PE X i (tE et X.K W fi)) (he : PE X e (tE et X.K W fe)) :
    PS X (.AugAssign (.Subscript o i tpos) (opr op) e pos) (tS et X.K W fun sl h => (fo sl h).th sl fun x h1 => (fi sl h1).th sl fun y h2 => (match x with
    | .ref _ => (item x y h2).th sl fun old h3 => (fe sl h3).th sl fun v h4 => (match old, v with
      | .int a, .int b => (augC op a b h4).th sl fun new h5 => (setitem x y new h5).th sl fun _ h6 => .nx sl h6
      | _, _ => .bad)
    | _ => .bad)) := by
  obtain ⟨ti, hip, ok⟩ := aug_ok (X := X) (et := et) op
  have ha : ∀ ov iv new, augStore i ov iv new = (do holding [new, ov, iv] (setItem ov iv new); release [new, ov, iv] []; pure .next) := fun ov iv new => by
    cases i <;> first | rfl | cases hi
  refine (ps_augS ho hii get_lst he hip set_list ha).imp fun D σ H ⟨m, sl, h, rl, rs, p⟩ => ⟨m, sl, h, rl, rs, PostS.th p rs fun x h1 e1 m1 H1 v x1 rl1 rv1 p1 => ?_⟩
  refine ⟨m1, sl, h1, rl1, rs.ext x1, PostS.th p1 (rs.ext x1) fun y h2 e2 m2 H2 u x2 rl2 rv2 p2 => ?_⟩
  have rv1' := RV.ext x2 rv1
  cases x <;> try (exact False.elim p2)
  rename_i n
  have rs2 := (rs.ext x1).ext x2
  refine item_lst (Wx := fun c d H' => W c d σ H') rl2 rv1' rv2 (PostS.th p2 rs2 fun old h3 e3 m3 H3 t x3 rl3 rv3 p3 => ?_)
  refine ⟨m3, sl, h3, rl3, rs2.ext x3, PostS.th p3 (rs2.ext x3) fun b h4 e4 m4 H4 t4 x4 rl4 rv4 p4 => ?_⟩
  cases old <;> cases b <;> try (exact False.elim p4)
  rename_i ia ib
  cases (RV.ext x4 rv3)
  cases rv4
  have rs4 := (rs2.ext x3).ext x4
  refine ok (fun c d H' => W c d σ H') m4 H4 h4 ia ib _ rl4 (PostS.th p4 rs4 fun new h5 e5 m5 H5 t5 x5 rl5 rv5 p5 => ?_)
  have y5 := (x3.trans x4).trans x5
  refine setitem_ok (et := et) (W := fun c d H' => W c d σ H') m5 H5 h5 (.ref n) y new _ _ _ _ rl5 (RV.ext y5 rv1') (RV.ext y5 rv2) rv5 ?_
  exact PostS.th (rel := fun _ _ _ (_ : Unit) => True) (Q := fun _ H' => D.nx σ H') p5 (rs4.ext x5) fun _ h6 e6 m6 H6 _ x6 rl6 _ p6 => p6 m6 H6 σ Ext.refl rl6 ((rs4.ext x5).ext x6)
theorem sS_setc (g : GoodX cx et call sub k X W) {i : Nat} {a : E} {y : Str} {py spos : Pos} {e : Expr} (hc : ∃ elt gens scope pos, e = .ListComp elt gens scope pos ∧ (py.line == pos.line) = true ∧ (scope.names.any fun (n, k) => n == y && (k == .local || k == .cell)) = false) (hx : locL cx.cf i y = true) (h : mE a cx.cf e = true) :
    PS X (.Assign [.Name y py] e spos) (tS et X.K W fun sl h => (E.ev call sub w none a sl h).th sl fun c h1 => .nx (sl.set i (some c)) h1) := by
  obtain ⟨elt, gens, scope, pos, rfl, hl, ha⟩ := hc
  obtain ⟨q1, q2, q3, q4⟩ := g.base.locL hx
  cases a <;> try (cases h; done)
  rename_i el p it t
  match gens, h with
  | [], h => cases h
  | _ :: _ :: _, h => cases h
  | [⟨tg, iter, ifs, asy⟩], h =>
    obtain ⟨h, h8⟩ := two h
    obtain ⟨h, h7⟩ := two h
    obtain ⟨h, h6⟩ := two h
    obtain ⟨h, h5⟩ := two h
    obtain ⟨h, h4⟩ := two h
    obtain ⟨h, h3⟩ := two h
    obtain ⟨h1, h2⟩ := two h
    have := of_decide_eq_true h1
    subst this
    obtain ⟨ok, ev⟩ := blk_ok g.base h3
    have gb := fun (s : Shared) (H : Hp) (C' : Addr) (cl : List (Str × Addr)) (fp : List Addr) => good_blk g.base ok.kind s H C' cl fp
    have hT : ∀ (s : Shared) (H : Hp) (C' : Addr) (cl : List (Str × Addr)) (fp : List Addr), PTs (X.blk s H scope (compEnvC scope cl C' X.env) fp) ifs (tT et X.K NoX (T.ev call sub w none t)) := fun s H C' cl fp => by
      cases ifs with
      | nil => exact pts_yes h7
      | cons c r =>
        cases r with
        | nil => exact pts_one (T.sound t _ _ _ (gb s H C' cl fp) c h7).1
        | cons _ _ => cases h7
    refine (ps_setLc (i := i) (wi := tI et X.K W (It.ev call sub w none it)) (g := tGv et X.K p.slots (Pt.put call sub w none p)) (tt := tT et X.K NoX (T.ev call sub w none t)) (te := tE et X.K NoX (E.ev call sub w none el)) g.base.calm q4 q1 q3 (sw_true g.base.sk q3 hl ha) (It.sound it cx.cf X W g.base tg iter (two h5).1 (two h5).2) ok
      (fun s H C' cl fp => flat_ok (gb s H C' cl fp) p tg h4 (fun _ hi => hi) h6) hT (fun s H C' cl fp => E.sound el _ _ _ (gb s H C' cl fp) elt h8) (Sh.fold_no h2)).imp fun D σ H ⟨m, sl, h, rl, rs, p0⟩ => ?_
    show tLc _ _ _ _ _ σ H fun x H1 => gName i x σ H1 D.nx
    rw [ev]
    refine lc_read (w := w) ⟨m, sl, h, rl, rs, PostS.th p0 rs fun c h1 e1 m1 H1 v x1 rl1 rv1 p1 => ?_⟩
    exact p1 m1 H1 _ Ext.refl rl1 ((rs.ext x1).set i rv1)
theorem Es.ev_len {cx' : Option (Nat × List C)} {sl : Sl} : ∀ {es : Es} {h h' : Hc} {xs : List C}, Es.ev call sub w cx' es sl h = .ok xs h' → xs.length = es.len
  | .nil, h, h', xs, e => by
    cases e
    rfl
  | .cons a es, h, h', xs, e => by
    have e : (E.ev call sub w cx' a sl h).bind (fun x h1 => (Es.ev call sub w cx' es sl h1).bind fun xs h2 => .ok (x :: xs) h2) = .ok xs h' := e
    cases e1 : E.ev call sub w cx' a sl h with
    | bad => rw [e1] at e; cases e
    | err _ _ _ => rw [e1] at e; cases e
    | ok x h1 =>
      rw [e1] at e
      have e : (Es.ev call sub w cx' es sl h1).bind (fun xs h2 => .ok (x :: xs) h2) = .ok xs h' := e
      cases e2 : Es.ev call sub w cx' es sl h1 with
      | bad => rw [e2] at e; cases e
      | err _ _ _ => rw [e2] at e; cases e
      | ok ys h2 =>
        rw [e2] at e
        cases e
        show ys.length + 1 = es.len + 1
        rw [Es.ev_len e2]
mutual
theorem S.sound {X : Cx} {W : WX} (g : GoodX cx et call sub k X W) : ∀ (s : S) (st : Stmt), mS cx s st = true → PS X st (tS et X.K W (S.ev call sub w s none))
  | .asg p a, st, h => by
    cases st <;> try (cases h; done)
    rename_i tgs e pos
    match tgs, h with
    | [], h => cases h
    | _ :: _ :: _, h => cases h
    | [tg], h =>
      obtain ⟨h, h4⟩ := two h
      obtain ⟨h, h3⟩ := two h
      obtain ⟨h1, h2⟩ := two h
      obtain ⟨h4, h5⟩ := two h4
      exact sS_asg g (fun l => sw_cell g h1) h2 h3 (E.sound (sub := sub) (w := w) a _ _ _ g.base  e h5) (Pt.sound (sub := sub) (w := w) p _ _ _ g.base  tg h4)
  | .par i j a b, st, h => by
    cases st <;> try (cases h; done)
    rename_i tgs e pos
    match tgs, h with
    | [], h => cases h
    | _ :: _ :: _, h => cases h
    | [tg], h =>
      cases tg <;> try (cases h; done)
      rename_i ts kt pt
      match ts, h with
      | [], h => cases h
      | [_], h => cases h
      | _ :: _ :: _ :: _, h => cases h
      | [t1, t2], h =>
        cases t1 <;> try (cases h; done)
        cases t2 <;> try (cases h; done)
        rename_i x px y py
        cases e <;> try (cases h; done)
        rename_i es k2 pt2 _ _
        match es, h with
        | [], h => cases h
        | [_], h => cases h
        | _ :: _ :: _ :: _, h => cases h
        | [l, r], h =>
          obtain ⟨h, h5⟩ := two h
          obtain ⟨h, h4⟩ := two h
          obtain ⟨h, h3⟩ := two h
          obtain ⟨h1, h2⟩ := two h
          obtain ⟨h5, h6⟩ := two h5
          exact sS_par g h1 (of_decide_eq_true h2) h3 h4 (E.sound (sub := sub) (w := w) a _ _ _ g.base  l h5) (E.sound (sub := sub) (w := w) b _ _ _ g.base  r h6)
  | .aug i o a, st, h => by
    cases st <;> try (cases h; done)
    rename_i tg op e pos
    cases tg <;> try (cases h; done)
    obtain ⟨h, h3⟩ := two h
    obtain ⟨h1, h2⟩ := two h
    have := of_decide_eq_true h1
    subst this
    exact sS_aug g h2 (E.sound (sub := sub) (w := w) a _ _ _ g.base  e h3)
  | .ifs t a b, st, h => by
    cases st <;> try (cases h; done)
    rename_i c p q pos
    obtain ⟨h1, h2⟩ := two h
    obtain ⟨h2, h3⟩ := two h2
    exact sS_ifs (T.sound (sub := sub) (w := w) t _ _ _ g.base  c h1).1 (Ss.sound g a p h2) (Ss.sound g b q h3)
  | .whl t b, st, h => by
    cases st <;> try (cases h; done)
    rename_i c p q pos
    obtain ⟨h1, h2⟩ := two h
    obtain ⟨h2, h3⟩ := two h2
    cases q with
    | cons _ _ => cases h1
    | nil => exact sS_while g.po (T.sound (sub := sub) (w := w) t _ _ _ g.base  c h2).1 (Ss.sound g b p h3)
  | .for_ p it b, st, h => by
    cases st <;> try (cases h; done)
    rename_i tg iter bd q pos
    obtain ⟨h, h3⟩ := two h
    obtain ⟨h1, h2⟩ := two h
    obtain ⟨h3, h4⟩ := two h3
    obtain ⟨h4, h5⟩ := two h4
    cases q with
    | cons _ _ => cases h1
    | nil => exact sS_for g.po g.base.calm (It.sound (sub := sub) (w := w) it _ _ _ g.base tg iter (two h4).1 (two h4).2) (Pt.sound (sub := sub) (w := w) p _ _ _ g.base  tg h3) (Ss.sound g b bd h5) (fold_no h2)
  | .ret a, st, h => by
    cases st <;> try (cases h; done)
    rename_i v pos
    cases v with
    | none => cases h
    | some e => exact sS_ret (E.sound (sub := sub) (w := w) a _ _ _ g.base  e h)
  | .retn, st, h => by
    cases st <;> try (cases h; done)
    rename_i v pos
    cases v with
    | some e => cases h
    | none => exact ps_retN.imp fun D σ H ⟨m, sl, h, rl, rs, p⟩ => p m H .non Ext.refl rl rfl
  | .expr a, st, h => by
    cases st <;> try (cases h; done)
    rename_i e pos
    obtain ⟨h1, h2⟩ := two h
    exact sS_expr h1 (E.sound (sub := sub) (w := w) a _ _ _ g.base  e h2)
  | .raise kk es, st, h => by
    cases st <;> try (cases h; done)
    rename_i v c pos
    cases c with
    | some _ => cases h
    | none =>
      cases v with
      | none => cases h
      | some v =>
        cases v <;> try (cases h; done)
        rename_i fn args kws p2
        cases fn <;> try (cases h; done)
        rename_i x p1
        cases args with
        | nil =>
          obtain ⟨h, h4⟩ := two h
          obtain ⟨h, h3⟩ := two h
          obtain ⟨h1, h2⟩ := two h
          cases kws with
          | cons _ _ => cases h1
          | nil =>
            obtain ⟨f1, f2, f3⟩ := g.base.gl h2
            obtain ⟨A, f, t1, t2, t3⟩ := g.tab.made _ _ _ h3
            have hf : f = [] := by cases t3; assumption
            subst hf
            refine (ps_raise g.base.calm g.base.tk (mk_bare t1 t2 t3 f1 f2)).imp fun D σ H ⟨m, sl, h, rl, rs, p⟩ => ?_
            have e0 : Es.ev call sub w none es sl h = .ok [] h := by
              cases es with
              | nil => rfl
              | cons _ es => simp [Es.len] at h4
            have p : PostS et X.K W D m H ((Es.ev call sub w none es sl h).th sl fun xs h1 => .err kk xs sl h1) := p
            rw [e0] at p
            exact p m H σ (.ref A) none Ext.refl rl rs ⟨A, [], [], t1, rfl, rfl, rfl, .inl ⟨rfl, rfl⟩⟩
        | cons e args =>
          obtain ⟨h, h5⟩ := two h
          obtain ⟨h, h4⟩ := two h
          obtain ⟨h, h3⟩ := two h
          obtain ⟨h1, h2⟩ := two h
          cases kws with
          | cons _ _ => cases h1
          | nil =>
            obtain ⟨f1, f2, f3⟩ := g.base.gl h2
            obtain ⟨A, f, t1, t2, t3⟩ := g.tab.made _ _ _ h3
            obtain ⟨t4, _⟩ := g.tab.fs _ _ _ t1
            rw [t4] at h4
            obtain ⟨h4, h6⟩ := two h4
            have hl : f.length = es.len := by simpa using h4
            have hA := Es.sound (sub := sub) (w := w) es _ _ _ g.base  (e :: args) h5
            have s1 : starEach (e :: args) X.env = (false, eval e X.env) :: starEach args X.env := by
              cases es with
              | nil => cases h5
              | cons a0 es0 =>
                obtain ⟨q1, _⟩ := two h5
                exact star_of q1
            have s2 : (backTo p2 (starEach args X.env)).any (·.1) = false := by
              cases es with
              | nil => cases h5
              | cons a0 es0 =>
                obtain ⟨_, q2⟩ := two h5
                obtain ⟨_, q3⟩ := two q2
                exact no_any q3
            refine (ps_raise g.base.calm g.base.tk (mk_own g.base.room t1 t2 t3 f1 f2 hA s1 s2)).imp fun D σ H ⟨m, sl, h, rl, rs, p⟩ => ?_
            have p : PostS et X.K W D m H ((Es.ev call sub w none es sl h).th sl fun xs h1 => .err kk xs sl h1) := p
            refine ⟨m, sl, h, rl, rs, PostS.th p rs fun xs h1 e1 m1 H1 vs x1 rl1 rv1 p1 => ⟨m1, h1, xs, rl1, rv1, by rw [hl]; exact Es.ev_len e1, of_decide_eq_true h6, fun m' H' cls d x2 rl2 rx => ?_⟩⟩
            exact p1 m' H' σ cls d x2 rl2 ((rs.ext x1).ext x2) rx
  | .brk, st, h => by
    cases st <;> try (cases h; done)
    exact ps_break.imp fun D σ H ⟨m, sl, h, rl, rs, p⟩ => p m H σ Ext.refl rl rs
  | .cnt, st, h => by
    cases st <;> try (cases h; done)
    exact ps_continue.imp fun D σ H ⟨m, sl, h, rl, rs, p⟩ => p m H σ Ext.refl rl rs
  | .pass, st, h => by
    cases st <;> try (cases h; done)
    exact ps_pass.imp fun D σ H ⟨m, sl, h, rl, rs, p⟩ => p m H σ Ext.refl rl rs
  | .try_ b hs, st, h => by
    cases st <;> try (cases h; done)
    rename_i body hds orelse fin pos
    obtain ⟨h, h4⟩ := two h
    obtain ⟨h, h3⟩ := two h
    obtain ⟨h1, h2⟩ := two h
    have h5 := (two h4).2
    replace h4 := (two h4).1
    cases orelse with
    | cons _ _ => cases h1
    | nil =>
      cases fin with
      | cons _ _ => cases h2
      | nil =>
        cases hds with
        | nil => cases h3
        | cons h₀ hds =>
          obtain ⟨L, hL, hw⟩ := mHd_ok g (w := w) hs (h₀ :: hds) h5
          refine (ps_try_asm (tb := fun W => tS et X.K W (Ss.ev call sub w b none)) g.stack g.frame (by rw [g.base.N]; exact g.base.nd) g.base.tk (fun W' pn xe tk po => Ss.sound (g.tr tk po) b body h4) hL).imp fun D σ H ⟨m, sl, h, rl, rs, p⟩ => ⟨m, sl, h, rl, rs, ?_⟩
          have p : PostS et X.K W D m H (match Ss.ev call sub w b none sl h with
            | .err k xs sl1 h1 => Hs.ev call sub w hs k xs sl1 h1
            | r => r) := p
          cases e : Ss.ev call sub w b none sl h with
          | nx _ _ => rw [e] at p; exact p
          | ret _ _ => rw [e] at p; exact p
          | bk _ _ => rw [e] at p; exact p
          | ct _ _ => rw [e] at p; exact p
          | bad => rw [e] at p; exact p
          | err kk xs sl1 h1 =>
            rw [e] at p
            exact fun m1 H1 σ1 cls d x1 rl1 rs1 rx => hw D kk xs sl1 h1 m1 H1 σ1 cls d rl1 rs1 rx (PostS.ext p x1)
  | .augi o i op a, st, h => by
    cases st <;> try (cases h; done)
    rename_i tg op' e pos
    cases tg <;> try (cases h; done)
    obtain ⟨h, h3⟩ := two h
    obtain ⟨h1, h2⟩ := two h
    obtain ⟨h3, h4⟩ := two h3
    obtain ⟨h4, h5⟩ := two h4
    have := of_decide_eq_true h1
    subst this
    exact sS_augi h2 (E.sound (sub := sub) (w := w) o _ _ _ g.base _ h3) (E.sound (sub := sub) (w := w) i _ _ _ g.base _ h4) (E.sound (sub := sub) (w := w) a _ _ _ g.base _ h5)
  | .app o a, st, h => by
    cases st <;> try (cases h; done)
    rename_i c pos
    cases c <;> try (cases h; done)
    rename_i fn args kws cpos
    cases fn <;> try (cases h; done)
    rename_i ob nm apos
    match args, h with
    | [], h => cases h
    | _ :: _ :: _, h => cases h
    | [e], h =>
      obtain ⟨h, h6⟩ := two h
      obtain ⟨h, h5⟩ := two h
      obtain ⟨h, h4⟩ := two h
      obtain ⟨h, h3⟩ := two h
      obtain ⟨h1, h2⟩ := two h
      obtain ⟨h6, h7⟩ := two h6
      cases kws with
      | cons _ _ => cases h1
      | nil =>
        have := of_decide_eq_true h2
        subst this
        exact sS_app h3 h4 h5 (E.sound (sub := sub) (w := w) o _ _ _ g.base ob h6) (E.sound (sub := sub) (w := w) a _ _ _ g.base e h7)
  | .setc i a, st, h => by
    cases st <;> try (cases h; done)
    rename_i tgs e pos
    match tgs, h with
    | [], h => cases h
    | _ :: _ :: _, h => cases h
    | [tg], h =>
      cases tg <;> try (cases h; done)
      rename_i y py
      cases e <;> try (cases h; done)
      obtain ⟨h, h4⟩ := two h
      obtain ⟨h, h3⟩ := two h
      obtain ⟨h1, h2⟩ := two h
      exact sS_setc g ⟨_, _, _, _, rfl, h2, noB h3⟩ h1 h4
theorem Ss.sound {X : Cx} {W : WX} (g : GoodX cx et call sub k X W) : ∀ (ss : Ss) (l : List Stmt), mSs cx ss l = true → PSs X l (tS et X.K W (Ss.ev call sub w ss none))
  | .nil, l, h => by
    cases l with
    | cons _ _ => cases h
    | nil => exact pss_nil.imp fun D σ H ⟨m, sl, h, rl, rs, p⟩ => p m H σ Ext.refl rl rs
  | .cons s ss, l, h => by
    cases l with
    | nil => cases h
    | cons st l =>
      obtain ⟨h1, h2⟩ := two h
      exact (pss_cons (S.sound g s st h1) (Ss.sound g ss l h2)).imp fun D σ H ⟨m, sl, h, rl, rs, p⟩ => ⟨m, sl, h, rl, rs, PostS.seq p⟩
end
end
end Sh
set_option Elab.async false
set_option linter.all false
set_option autoImplicit false
set_option maxRecDepth 100000
set_option maxHeartbeats 8000000
/-! Sh, part N: every def of the program does what the plain run tells; the head. -/
namespace Sh
open PySem PySem.Spec PyProof.Rows L2

/-! ### lists that none holds any more are let go -/
section
variable {K : PySem.W.Frag} {m m' : List Addr} {H H' : Hp} {n : Nat}
mutual
theorem RV.take (n : Nat) : ∀ {c : C} {v : V}, c.under n = true → RV K m H c v → RV K (m.take n) H c v
  | .non, _, _, h => h
  | .bl _, _, _, h => h
  | .int _, _, _, h => h
  | .str _, _, _, h => h
  | .rep _, _, _, h => h
  | .tup cs, _, u, h => by
    obtain ⟨a, vs, e1, e2, e3⟩ := h
    exact ⟨a, vs, e1, e2, RVs.takeM n u e3⟩
  | .ref k, _, u, h => by
    obtain ⟨a, e1, e2⟩ := h
    have hk : k < n := of_decide_eq_true u
    exact ⟨a, by rw [List.getElem?_take]; rw [if_pos hk]; exact e1, e2⟩
  | .frz cs, _, u, h => by
    obtain ⟨a, vs, e1, e2, e3⟩ := h
    exact ⟨a, vs, e1, e2, RVs.takeM n u e3⟩
theorem RVs.takeM (n : Nat) : ∀ {cs : List C} {vs : List V}, C.unders n cs = true → RVs K m H cs vs → RVs K (m.take n) H cs vs
  | [], _, _, h => h
  | c :: cs, _, u, h => by
    obtain ⟨v, r, e1, e2, e3⟩ := h
    obtain ⟨u1, u2⟩ := two u
    exact ⟨v, r, e1, RV.take n u1 e2, RVs.takeM n u2 e3⟩
end
theorem Rl.take {h : Hc} (r : Rl K m h H) (n : Nat) (hu : (h.take n).all (C.unders n) = true) : Rl K (m.take n) (h.take n) H := by
  refine ⟨by simp [r.len], r.nd.sublist (List.take_sublist n m), fun i a cs e1 e2 => ?_⟩
  have hi : i < n := by
    by_cases q : i < n
    · exact q
    · rw [List.getElem?_take, if_neg q] at e1
      cases e1
  rw [List.getElem?_take, if_pos hi] at e1 e2
  obtain ⟨vs, q1, q2⟩ := r.at_ i a cs e1 e2
  refine ⟨vs, q1, RVs.takeM n (List.all_eq_true.mp hu cs ?_) q2⟩
  exact List.mem_of_getElem? (i := i) (by rw [List.getElem?_take, if_pos hi]; exact e2)
theorem Ext.take {h : Hc} (e : Ext K m H m' H') (r : Rl K m h H) : Ext K m H (m'.take h.length) H' := by
  refine ⟨fun i a q => ?_, fun b o q n => ?_, e.tu, e.fz⟩
  · have hi : i < h.length := by rw [← r.len]; exact (List.getElem?_eq_some_iff.mp q).1
    rw [List.getElem?_take, if_pos hi]
    exact e.pre i a q
  · obtain ⟨n1, n2⟩ := e.fr b o q n
    exact ⟨fun z => n1 (List.mem_of_mem_take z), n2⟩
theorem tidy_ok {et : ETab} {W : Value → Option Addr → Hp → Prop} {Q : VK} {h h1 : Hc} {c : C} (rl : Rl K m h H) (p : Post et K W m H (relV K) Q (tidy h.length c h1)) {m1 : List Addr} {H1 : Hp} {v : V} (x : Ext K m H m1 H1) (rl1 : Rl K m1 h1 H1) (rv : RV K m1 H1 c v) : Q v H1 := by
  unfold tidy at p
  split at p
  · rename_i hu
    obtain ⟨u1, u2⟩ := two hu
    exact p (m1.take h.length) H1 v (x.take rl) (rl1.take _ u2) (RV.take _ u1 rv)
  · exact p m1 H1 v x rl1 rv
theorem tidyX_ok {et : ETab} {W : Value → Option Addr → Hp → Prop} {Q : VK} {h h1 : Hc} {kk : Nat} {xs : List C} (rl : Rl K m h H) (p : Post et K W m H (relV K) Q (tidyX h.length kk xs h1)) {m1 : List Addr} {H1 : Hp} {cls : Value} {d : Option Addr} (x : Ext K m H m1 H1) (rl1 : Rl K m1 h1 H1) (rx : RX et K m1 H1 kk xs cls d) : W cls d H1 := by
  unfold tidyX at p
  split at p
  · rename_i hu
    obtain ⟨u1, u2⟩ := two hu
    obtain ⟨A, fs, vs, h1', h2, h3, h4, h5⟩ := rx
    refine p (m1.take h.length) H1 cls d (x.take rl) (rl1.take _ u2) ⟨A, fs, vs, h1', h2, h3, RVs.takeM _ u1 h4, h5.imp id fun ⟨dd, e1, e2, e3⟩ => ⟨dd, e1, e2, fun z => e3 (List.mem_of_mem_take z)⟩⟩
  · exact p m1 H1 cls d x rl1 rx
end

/-! ### the program -/
structure Item where
  x : Str
  st : Stmt
  N : List Str
  ps : List Str
  body : Ss
def Item.cfx (c0 : Cfx) (it : Item) : Cfx := { c0 with cf := { c0.cf with N := it.N, kind := fun y => (defScope it.st).names.lookup y, cl := fun y => (defScope it.st).names.lookup y == some .cell } }
def fnsOf (its : List Item) : Nat → Option Fn := fun i => (its[i]?).map fun it => ⟨it.N.length, it.ps.length, it.body⟩
structure Item.Ok (c0 : Cfx) (it : Item) : Prop where
  sc : FnScope it.N it.ps (defScope it.st)
  m : mSs (it.cfx c0) it.body (defBody it.st) = true
structure Land (its : List Item) (c0 : Cfx) (et : ETab) (sub : Nat → Str → Option Bool) (P : Program) (w : World) (K : PySem.W.Frag) (mg : Str → Option Value) (base : Heap) : Prop where
  cfn : c0.cf.fn = its.map fun it => (it.x, it.ps)
  ok : ∀ it ∈ its, it.Ok c0
  fn : ∀ (i : Nat) (it : Item), its[i]? = some it → ∃ f fd, mg it.x = some (.ref f) ∧ Fun K it.x it.x it.st f fd ∧ Binds K fd it.ps [] ∧ ∀ n ks perm, (i, n, ks, perm) ∈ c0.cf.kw → KBinds K fd it.ps ks (gK n ks.length perm) (gK n ks.length perm) ∧ 0 < it.ps.length
  bn : ∀ x, c0.cf.bn.contains x = true → mg x = none
  gcd : c0.cf.gcd = true → mg "gcd" = some (.builtin "math.gcd")
  con : ∀ x c, (x, c) ∈ c0.cf.con → ∃ v u, mg x = some u ∧ RelV v u ∧ ∀ m H, RV K m H c v
  tab : ∀ k, 2 ≤ k → Tab P w K mg base k c0 et sub
  hot : ∀ x, c0.hot.contains x = true → ∃ f fd st y A B, HotF K mg et sub x f fd st y A B
section
variable {its : List Item} {c0 : Cfx} {et : ETab} {sub : Nat → Str → Option Bool} {P : Program} {w : World} {K : PySem.W.Frag} {mg : Str → Option Value} {base : Heap}
theorem RS.start {m : List Addr} {H : Hp} {N : List Str} {cs : List C} {vs : List V} (r : RVs K m H cs vs) (n : Nat) (hn : n = N.length) : RS K m H (cs.map some ++ List.replicate (n - cs.length) none) (start N vs) := by
  have hl := r.length
  subst hn
  refine ⟨by unfold L2.start; simp [hl], fun i c q => ?_⟩
  by_cases hi : i < cs.length
  · rw [List.getElem?_append_left (by simpa using hi), List.getElem?_map] at q
    cases e : cs[i]? with
    | none => rw [e] at q; cases q
    | some c' =>
      rw [e] at q
      cases q
      obtain ⟨v, e1, e2⟩ := r.get e
      refine ⟨v, ?_, e2⟩
      unfold L2.start
      rw [List.getElem?_append_left (by simpa [← hl] using hi), List.getElem?_map, e1]
      rfl
  · rw [List.getElem?_append_right (by simpa using Nat.le_of_not_lt hi), List.getElem?_replicate] at q
    split at q
    · cases q
    · cases q
theorem run_ok (L : Land its c0 et sub P w K mg base) (wh : Nat) : ∀ (d i : Nat) (it : Item), its[i]? = some it → ∀ (f : Addr) (fd : FuncData), Fun K it.x it.x it.st f fd → FnOkG P w K mg base (d + 2) f fd it.ps (spI et K (run (fnsOf its) sub wh d i))
  | 0, i, it, hi, f, fd, F => ⟨fun vs H Q E ⟨m, h, cs, rl, rv, p⟩ => False.elim p, fun A outer s H args us vs Q E hg hr he hb hv ⟨m, h, cs, rl, rv, p⟩ => False.elim p⟩
  | d + 1, i, it, hi, f, fd, F => by
    have ok := L.ok it (List.mem_of_getElem? hi)
    have S := ok.sc
    have hf : fnsOf its i = some ⟨it.N.length, it.ps.length, it.body⟩ := by
      unfold fnsOf
      rw [hi]
      rfl
    have hrun : ∀ (cs : List C) (h : Hc), run (fnsOf its) sub wh (d + 1) i cs h = if cs.length = it.ps.length ∧ it.ps.length ≤ it.N.length then
        (match Ss.ev (run (fnsOf its) sub wh d) sub wh it.body none (cs.map some ++ List.replicate (it.N.length - it.ps.length) none) h with
          | .nx _ h1 => tidy h.length .non h1
          | .ret c h1 => tidy h.length c h1
          | .err k ys _ h1 => tidyX h.length k ys h1
          | _ => .bad)
      else .bad := fun cs h => by
      show (match fnsOf its i with
        | none => R.bad
        | some fn => if cs.length = fn.np ∧ fn.np ≤ fn.n then
            (match Ss.ev (run (fnsOf its) sub wh d) sub wh fn.body none (cs.map some ++ List.replicate (fn.n - fn.np) none) h with
              | .nx _ h1 => tidy h.length .non h1
              | .ret c h1 => tidy h.length c h1
              | .err k ys _ h1 => tidyX h.length k ys h1
              | _ => .bad)
          else .bad) = _
      rw [hf]
    refine Sh.Fun.okG F S (fun vs H Q E ⟨m, h, cs, rl, rv, p⟩ => ?_) (fun cdv A outer s H vs Q E hg hr ⟨m, h, cs, rl, rv, p⟩ => ?_)
    · rw [hrun] at p
      split at p
      · rename_i hc
        rw [← rv.length]
        exact hc.1
      · exact False.elim p
    · rw [hrun] at p
      split at p
      · rename_i hc
        have g : GoodX (it.cfx c0) et (run (fnsOf its) sub wh d) sub (d + 2) (cxOf (L2.CX P w) P w K mg base it.N it.x (defScope it.st) f cdv A outer s H E) (fun cls d _ H => E cls d H) := by
          refine ⟨⟨rfl, S.nd, fun x => rfl, fun x hx => ⟨rfl, beq_iff_eq.mp hx⟩, S.kind, rfl, hr, hg, takes_of rfl rfl rfl rfl, L.bn, L.gcd, L.con, fun fi x ps hfi => ?_⟩, ?_, rfl, rfl, ?_, passes_of rfl, fun x hx => ⟨by omega, L.hot x hx⟩⟩
          · have hfi : c0.cf.fn[fi]? = some (x, ps) := hfi
            rw [L.cfn, List.getElem?_map] at hfi
            cases e : its[fi]? with
            | none => rw [e] at hfi; cases hfi
            | some it2 =>
              rw [e] at hfi
              cases hfi
              obtain ⟨a2, fd2, q1, q2, q3, q4⟩ := L.fn fi it2 e
              exact ⟨a2, fd2, q1, q2.kp, q3, run_ok L wh d fi it2 e a2 fd2 q2, q4⟩
          · have t := L.tab (d + 2) (by omega)
            exact ⟨t.fs, t.made, t.hd, t.isx, t.xc⟩
          · show (if (defScope it.st).kind.isAnnotationScope then ScopeKind.function else (defScope it.st).kind) = .function
            rw [S.kind]
            rfl
        refine ⟨_, Ss.sound (w := wh) g it.body (defBody it.st) ok.m, m, _, h, rl, RS.start rv it.N.length rfl, ?_⟩
        rw [hc.1]
        cases e : Ss.ev (run (fnsOf its) sub wh d) sub wh it.body none (cs.map some ++ List.replicate (it.N.length - it.ps.length) none) h with
        | nx sl h1 =>
          rw [e] at p
          exact fun m1 H1 σ1 x1 rl1 rs1 => tidy_ok rl p x1 rl1 (v := .non) rfl
        | ret c h1 =>
          rw [e] at p
          exact fun m1 H1 v x1 rl1 rv1 => tidy_ok rl p x1 rl1 rv1
        | err kk ys sl h1 =>
          rw [e] at p
          exact fun m1 H1 σ1 cls d x1 rl1 rs1 rx => tidyX_ok (W := E) rl p x1 rl1 rx
        | bk _ _ => rw [e] at p; exact False.elim p
        | ct _ _ => rw [e] at p; exact False.elim p
        | bad => rw [e] at p; exact False.elim p
      · exact False.elim p
end

/-! ### the head: as the layer's own, where nothing guards -/
theorem law_callG {P : Program} {w : World} {K : PySem.W.Frag} {mg mb : Str → Option Value} {k : Nat} {fa a : Addr} {fd : FuncData} {x : Str} {sp : Sp} {s₁ : Shared} {vs : List Value} {ns : List Int}
    (KX : K.In s₁.heap) (hns : s₁.heap.Ns mainGlobals mg) (hb : s₁.heap.Ns builtinsNs mb) (hbb : ∀ x : Str, x ≠ "__name__" → mb x = bootBuiltins x) (hlim : s₁.heap.NoLimit) (hg : s₁.gens = #[])
    (ha : s₁.heap.get? a = some { cls := .type "list", data := .seq vs.toArray }) (hi : IntsAre vs ns) (hl : ns.length ≤ sizeLine) (hr : Room k callerA)
    (F : ∀ base : Heap, K.In base → base.Ns mainGlobals mg → FnOkG P w K mg base k fa fd [x] sp) (hbind : ∀ (s : Shared) (u : Value), BindsTo s fd ⟨[u], []⟩ [(x, u)])
    (hsp : ∀ H : Hp, Only H → FzL K H a (ns.map V.int) → sp [.ref a] H (fun v _ => v = .bl true) fun _ _ _ => False) :
    codeAny (model P w) callerA (.call (.ref fa) ⟨[.ref a], []⟩) (fun r s' => r = .ok (.ret (.bool true)) ∧ OldK s₁.heap s'.heap ∧ s'.os = s₁.os ∧ AllBare s'.gens) s₁ := by
  have rv := vals_ints hi
  have go : ∀ H : Hp, Only H → FzL K H a (ns.map V.int) → HOk P w H s₁.heap → (∀ b, H b ≠ none → b = a) → (H a ≠ none → K.lookup a = none) →
      codeAny (model P w) callerA (.call (.ref fa) ⟨[.ref a], []⟩) (fun r s' => r = .ok (.ret (.bool true)) ∧ OldK s₁.heap s'.heap ∧ s'.os = s₁.os ∧ AllBare s'.gens) s₁ := fun H hO hS hok hA hK => by
    have isA : ∀ {b : Addr} {u : HO}, H b = some u → b = a := fun {b u} q => hA b (by rw [q]; simp)
    have noD : ∀ {b : Addr} {o : Obj} {es : Array DictEntry} {ep : Nat}, s₁.heap.get? b = some o → o.data = .dict es ep → H b = none := fun {b o es ep} e d => by
      cases q : H b with
      | none => rfl
      | some u =>
        obtain rfl := isA q
        rw [ha] at e
        cases e
        exact absurd (show Data.seq vs.toArray _ = Data.dict es ep from d) (by intro z; cases z)
    have nsT : ∀ {b : Addr} {m : Str → Option Value}, s₁.heap.Ns b m → (hidT s₁.heap H).Ns b m := fun {b m} ⟨o, es, ep, e, d, r⟩ => ⟨o, es, ep, hidT_get e (noD e d), d, r⟩
    have inT : K.In (hidT s₁.heap H) := fun b o e => hidT_get (KX b o e) (by
      cases q : H b with
      | none => rfl
      | some u =>
        obtain rfl := isA q
        rw [hK (by rw [q]; simp)] at e
        cases e)
    have e0 : Env0 P w K mg (hidT s₁.heap H) callerA [] s₁ H := ⟨rfl, ⟨inT, nsT hns, ⟨mb, nsT hb, hbb⟩, let ⟨mc, h1, h2⟩ := hlim; ⟨mc, nsT h1, h2⟩⟩, fun b o e => of_hidT e, Nat.le_of_eq (hidT_size _ _), trivial, fun b hb => absurd (show b ∈ ([] : List Addr) from hb) (by simp), hok, .of_eq hg⟩
    refine codeAny_mono ((F _ inT (nsT hns)).run callerA [] s₁ H ⟨[.ref a], []⟩ [.ref a] [.ref a] _ _ rfl hr e0 (hbind s₁ (.ref a)) (.cons rfl .nil) (hsp H hO hS)) fun r s' h => ?_
    cases r with
    | error e =>
      obtain ⟨_, _, _, _, _, _, _, _, _, _, _, _, z⟩ := h
      exact z.elim
    | ok fl =>
      cases fl <;> first | exact False.elim h | skip
      obtain ⟨v, H', os, bare, un, hok', r', q⟩ := h
      have q' : v = .bl true := q
      subst q'
      obtain rfl := r'
      refine ⟨rfl, OldK.of_keep fun b o e => ?_, os, bare⟩
      cases q : H b with
      | none => exact un.keep b o e q (by intro z; exact absurd (show b ∈ ([] : List Addr) from z) (by simp)) (by simp)
      | some u =>
        rcases hO b with z | ⟨ob, xs, z⟩
        · rw [q] at z; cases z
        · obtain ⟨e1, _⟩ := hok b _ z
          obtain ⟨e2, _⟩ := hok' b _ (un.frzs b ob _ z)
          rw [e] at e1
          cases e1
          exact e2
  cases hk : K.lookup a with
  | some o =>
    have e := KX a o hk
    rw [ha] at e
    cases e
    exact go (fun _ => none) (fun _ => .inl rfl) (.inr ⟨_, vs.toArray, _, hk, rfl, rfl, rfl, by rw [List.size_toArray, hi.length]; exact hl, by simpa using rv⟩) (fun b u z => by have z' : (none : Option HO) = some u := z; cases z') (fun b z => absurd rfl z) fun z => absurd rfl z
  | none =>
    have at_ : (fun b => if b = a then some (HO.frz { cls := .type "list", data := .seq vs.toArray } (.lst (ns.map V.int))) else none) a = some (HO.frz { cls := .type "list", data := .seq vs.toArray } (.lst (ns.map V.int))) := if_pos rfl
    refine go (fun b => if b = a then some (.frz { cls := .type "list", data := .seq vs.toArray } (.lst (ns.map V.int))) else none) (fun b => ?_) (.inl ⟨_, at_⟩) (fun b u z => ?_) (fun b z => ?_) fun _ => hk
    · by_cases hb : b = a
      · exact .inr ⟨_, _, if_pos hb⟩
      · exact .inl (if_neg hb)
    · by_cases hb : b = a
      · have z' := (if_pos hb).symm.trans z
        cases z'
        subst hb
        exact ⟨ha, by rw [List.length_map]; exact hl, vs, _, rv, ha⟩
      · have z' := (if_neg hb).symm.trans z
        cases z'
    · by_cases hb : b = a
      · exact hb
      · exact absurd (if_neg hb) z
/-- the goal that k_head leaves -/
theorem walk_G {l : PySem.W.OpenLaw} {n k : Nat} {q : Program} {loose : List Str} {XP : (Str → Option Value) → Heap → Prop} {YP : World → Heap → Prop} {d : DefRec} {K : Params → PySem.W.Frag} {sp : World → Sp} {x : Str}
    (hn : l.most = some n) (hn2 : n ≤ sizeLine) (hdf : d.params.defaults = []) (hr : Room k callerA)
    (hY : ∀ (w : World) (h : Heap), YP w h → (K w.params).In h)
    (F : ∀ (w : World) (mg : Str → Option Value) (fa : Addr) (h : Heap), (K w.params).In h → h.Ns mainGlobals mg → mg d.name = some (.ref fa) →
      ∃ fd : FuncData, (∀ (s : Shared) (u : Value), BindsTo s fd ⟨[u], []⟩ [(x, u)]) ∧
        ∀ base : Heap, (K w.params).In base → base.Ns mainGlobals mg → FnOkG l.prog w (K w.params) mg base k fa fd [x] (sp w))
    (hsp : ∀ (w : World) (H : Hp) (a : Addr) (ns : List Int), ns.length ≤ n → Only H → FzL (K w.params) H a (ns.map V.int) → sp w [.ref a] H (fun v _ => v = .bl true) fun _ _ _ => False) :
    PySem.W.WalkO q loose XP YP l.row.toRowW d [] (fun f vs => PySem.call f vs) := by
  refine Att.attach_call hn hdf fun w s₀ s₁ mg mb fa o pm cd doc a vs ns G Y ho hd hcd hmg hobj hints hlen hg => ?_
  have KX := hY w _ Y
  obtain ⟨fd, hb, hF⟩ := F w mg fa _ KX G.T.g hmg
  exact law_callG KX G.T.g G.T.b G.T.builtins G.T.nolimit hg hobj hints (Nat.le_trans hlen hn2) hr hF hb fun H hO hS => hsp w H a ns hlen hO hS
end Sh
set_option Elab.async false
set_option linter.all false
set_option autoImplicit false
set_option maxRecDepth 100000
set_option maxHeartbeats 8000000
/-! Sh, part O: the facts of a program's world, from what the written part says. -/
namespace Sh
open PySem PySem.Spec PyProof.Rows L2

section
variable {P : Program} {w : World} {K : PySem.W.Frag} {mg : Str → Option Value} {base : Heap} {C fI : Addr} {fd : FuncData}
/-- __init__(self, v): self.v = v -/
theorem ini1 {f q : Str} {st : Stmt} {q1 q2 q3 q4 : Pos} (F : Fun K "__init__" q st fI fd) (hb : defBody st = [.Assign [.Attribute (.Name "self" q1) f q2] (.Name f q3) q4]) (S : FnScope ["self", f] ["self", f] (defScope st)) (hf1 : (f == ("__debug__" : Str)) = false) (hf2 : (f == ("__classdict__" : Str)) = false)
    (T : OexG K C) (hno : PySem.W.findIn K (.ref C) f = some none) : FnOk P w K mg base (L2.CX P w) 1 fI fd ("self" :: [f]) (spIni C [f]) := by
  refine F.okX S (fun vs H Q E ⟨a, ws, e1, e2, _⟩ => by rw [e1]; simpa using e2) (fun cdv A outer s H vs Q E hr ⟨a, ws, e1, e2, e3, e4⟩ => ?_)
  rw [hb]
  have vis : ∀ x, x ∈ (["self", f] : List Str) → Vis (defScope st) x := fun x hx => (S.par x hx).elim .inl fun z => .inr (.inl z)
  refine ⟨_, pss_one (ps_ostG (pe_var (i := 0) rfl (vis "self" (by simp))) (pe_var (i := 1) rfl (vis f (by simp)) hf1 hf2) rfl), ?_⟩
  match ws, e2 with
  | [y], _ =>
    subst e1
    refine ⟨y, rfl, .ref a, rfl, a, C, rfl, T, hno, .inl ⟨e3, fun dx n1 n2 => ?_⟩⟩
    exact e4 dx _ n1 n2 upd_same (by rw [upd_ne n2, upd_same]; rfl) fun b h1 h2 => by rw [upd_ne h1, upd_ne h2]
/-- __init__(self, v, u): self.v = v; self.u = u -/
theorem ini2 {f g q : Str} {st : Stmt} {q1 q2 q3 q4 r1 r2 r3 r4 : Pos} (F : Fun K "__init__" q st fI fd) (hb : defBody st = [.Assign [.Attribute (.Name "self" q1) f q2] (.Name f q3) q4, .Assign [.Attribute (.Name "self" r1) g r2] (.Name g r3) r4]) (S : FnScope ["self", f, g] ["self", f, g] (defScope st))
    (hf1 : (f == ("__debug__" : Str)) = false) (hf2 : (f == ("__classdict__" : Str)) = false) (hg1 : (g == ("__debug__" : Str)) = false) (hg2 : (g == ("__classdict__" : Str)) = false)
    (T : OexG K C) (hno : PySem.W.findIn K (.ref C) f = some none) (hno2 : PySem.W.findIn K (.ref C) g = some none) : FnOk P w K mg base (L2.CX P w) 1 fI fd ("self" :: [f, g]) (spIni C [f, g]) := by
  refine F.okX S (fun vs H Q E ⟨a, ws, e1, e2, _⟩ => by rw [e1]; simpa using e2) (fun cdv A outer s H vs Q E hr ⟨a, ws, e1, e2, e3, e4⟩ => ?_)
  rw [hb]
  have vis : ∀ x, x ∈ (["self", f, g] : List Str) → Vis (defScope st) x := fun x hx => (S.par x hx).elim .inl fun z => .inr (.inl z)
  refine ⟨_, pss_cons (ps_ostG (pe_var (i := 0) rfl (vis "self" (by simp))) (pe_var (i := 1) rfl (vis f (by simp)) hf1 hf2) rfl) (pss_one (ps_ostG (pe_var (i := 0) rfl (vis "self" (by simp))) (pe_var (i := 2) rfl (vis g (by simp)) hg1 hg2) rfl)), ?_⟩
  match ws, e2 with
  | [y, z], _ =>
    subst e1
    refine ⟨y, rfl, .ref a, rfl, a, C, rfl, T, hno, .inl ⟨e3, fun dx n1 n2 => ?_⟩⟩
    have nx : dx ≠ a := n2
    refine ⟨z, rfl, .ref a, rfl, a, C, rfl, T, hno2, .inr ⟨dx, [(f, y)], upd_same, by rw [upd_ne nx, upd_same], by show 1 ≤ 900; omega, ?_⟩⟩
    exact e4 dx _ n1 n2 (by rw [upd_ne (Ne.symm nx), upd_same]) (by rw [upd_same]; rfl) fun b h1 h2 => by rw [upd_ne h2, upd_ne h1, upd_ne h2]
theorem gK_vals {n k : Nat} {perm : List Nat} {vs zs : List V} {us ws : List Value} (r : Vals vs us) (rz : Vals zs ws) : Vals (gK n k perm vs zs) (gK n k perm us ws) := by
  unfold gK
  rw [r.length, rz.length]
  split
  · refine r.append ?_
    induction perm with
    | nil => exact .nil
    | cons i perm ih =>
      rw [List.filterMap_cons, List.filterMap_cons]
      cases e : zs[i]? with
      | none =>
        have : ws[i]? = none := by
          rw [List.getElem?_eq_none_iff] at e ⊢
          rw [← rz.length]; exact e
        rw [this]
        exact ih
      | some z =>
        obtain ⟨u, e1, e2⟩ := rz.get e
        rw [e1]
        exact .cons e2 ih
  · exact .nil
theorem kb_mk {fd : FuncData} {ps ks : List Str} {n k : Nat} {perm : List Nat} (hp : 0 < ps.length) (h : ∀ (s : Shared) (us ws : List Value), us.length = n → ws.length = k → BindsTo s fd ⟨us, ks.zip ws⟩ (ps.zip (us ++ perm.filterMap fun i => ws[i]?))) : KBinds K fd ps ks (gK n k perm) (gK n k perm) :=
  ⟨fun s us ws _ hl => by
    unfold gK at hl ⊢
    split at hl
    · rename_i hc
      rw [if_pos hc]
      exact h s us ws hc.1 hc.2
    · exact absurd hl (by simp; omega), fun r rz => gK_vals r rz⟩
theorem xc_mk (ga : PySem.W.findIn K (.ref C) "__getattribute__" = some (some (.builtin "BaseException.__getattribute__"))) (gg : PySem.W.findIn K (.ref C) "__getattr__" = some none) (su : PySem.W.subIn K (.ref C) (.type "BaseException") = some true) (hd : PySem.W.hasDictIn K C = true)
    (ha : PySem.W.findIn K (.ref C) "__class__" = some (some (.builtin "object.__class__"))) (hn : PySem.W.specialIn K (.builtin "object.__class__") "__get__" = some (some (.builtin "getset_descriptor.__get__"))) (ht : PySem.W.takesIn K (.builtin "object.__class__") = some true) (hm : PySem.W.mroIn K C (.type "object") = some true) : XcC K C := by
  refine ⟨?_, ga, gg, su, hd, ha, hn, ht, hm⟩
  unfold PySem.W.hasDictIn at hd
  cases e : PySem.W.clsIn K C with
  | none => rw [e] at hd; cases hd
  | some _ => rfl
theorem kit_mk {A : Addr} {b : Bool} (hd : PySem.W.hasDictIn K C = true) (ht : PySem.W.typeIn K (.ref C) = some (.type "type")) (hne : A ≠ C) (hs : PySem.W.subIn K (.ref A) (.ref C) = some b) : PySem.W.kitOne K (.ref A) (.ref C) = some b := by
  have hc : (PySem.W.clsIn K C).isSome = true := by
    unfold PySem.W.hasDictIn at hd
    cases e : PySem.W.clsIn K C with
    | none => rw [e] at hd; cases hd
    | some _ => rfl
  unfold PySem.W.kitOne
  rw [if_neg (by
    intro z
    exact hne (Value.ref.inj (beq_iff_eq.mp z)))]
  have e2 : ((PySem.W.clsIn K C).isSome && PySem.W.typeIn K (.ref C) == some (.type "type")) = true := by rw [hc, ht] <;> rfl
  show (if ((PySem.W.clsIn K C).isSome && PySem.W.typeIn K (.ref C) == some (.type "type")) = true then PySem.W.subIn K (.ref A) (.ref C) else none) = some b
  rw [if_pos e2]
  exact hs
/-- the law's promise at its own script -/
def sp0 (K : PySem.W.Frag) : Sp := fun vs H Q _ => ∃ (a : Addr) (ns : List Int), vs = [.ref a] ∧ ns.length ≤ 63 ∧ FzL K H a (ns.map V.int) ∧ ∀ H', Q (.bl true) H'
theorem rvs_ints {m : List Addr} {H : Hp} : ∀ ns : List Int, RVs K m H (ns.map Sh.C.int) (ns.map V.int)
  | [] => rfl
  | n :: ns => ⟨.int n, _, rfl, rfl, rvs_ints ns⟩
theorem sp0_of {et : ETab} {k : Nat} {f : Addr} {ps : List Str} {r : List Sh.C → Hc → R Sh.C} (F : FnOkG P w K mg base k f fd ps (spI et K r)) (hp : ∀ ns : List Int, ns.length ≤ 63 → ∃ h', r [.frz (ns.map Sh.C.int)] [] = .ok (.bl true) h') : FnOkG P w K mg base k f fd ps (sp0 K) :=
  F.imp fun vs H Q E ⟨a, ns, e1, e2, e3, e4⟩ => by
    obtain ⟨h', hr⟩ := hp ns e2
    refine ⟨[], [], [.frz (ns.map Sh.C.int)], ⟨rfl, .nil, fun n a cs q => by cases q⟩, ?_, ?_⟩
    · rw [e1]
      exact RVs.one ⟨a, _, rfl, e3, rvs_ints ns⟩
    · rw [hr]
      exact fun m' H' v x rl rv => by cases rv; exact e4 H'
end
end Sh
set_option linter.all false
set_option autoImplicit false
set_option maxRecDepth 100000
set_option maxHeartbeats 2000000
/-! Sh, part P: what the plain language's parts do, for reckoning by simp. -/
namespace Sh
open PySem
section
variable {α β : Type}
theorem bind_ok (a : α) (h : Hc) (f : α → Hc → R β) : (R.ok a h).bind f = f a h := rfl
theorem bind_err (k : Nat) (xs : List C) (h : Hc) (f : α → Hc → R β) : (R.err k xs h).bind f = .err k xs h := rfl
theorem bind_bad (f : α → Hc → R β) : (R.bad : R α).bind f = .bad := rfl
theorem th_ok (a : α) (h : Hc) (sl : Sl) (f : α → Hc → RS') : (R.ok a h).th sl f = f a h := rfl
theorem th_err (k : Nat) (xs : List C) (h : Hc) (sl : Sl) (f : α → Hc → RS') : (R.err k xs h).th sl f = .err k xs sl h := rfl
theorem th_bad (sl : Sl) (f : α → Hc → RS') : (R.bad : R α).th sl f = .bad := rfl
theorem nxth (sl : Sl) (h : Hc) (f : Sl → Hc → RS') : (RS'.nx sl h).th f = f sl h := rfl
theorem retth (c : C) (h : Hc) (f : Sl → Hc → RS') : (RS'.ret c h).th f = .ret c h := rfl
theorem errth (k : Nat) (xs : List C) (sl : Sl) (h : Hc) (f : Sl → Hc → RS') : (RS'.err k xs sl h).th f = .err k xs sl h := rfl
theorem badth (f : Sl → Hc → RS') : (RS'.bad).th f = .bad := rfl
theorem noerr_ok (a : α) (h : Hc) : (R.ok a h).noerr = .ok a h := rfl
end
/-- the end of a def -/
def fin (h : Hc) : RS' → R C
  | .nx _ h1 => tidy h.length .non h1
  | .ret c h1 => tidy h.length c h1
  | .err k ys _ h1 => tidyX h.length k ys h1
  | _ => .bad
theorem tidy_same (h : Hc) (c : C) : tidy h.length c h = .ok c h := by
  unfold tidy
  split
  · rw [List.take_length]
  · rfl
theorem tidyX_same (h : Hc) (k : Nat) (xs : List C) : tidyX h.length k xs h = .err k xs h := by
  unfold tidyX
  split
  · rw [List.take_length]
  · rfl
theorem fin_nx (sl : Sl) (h h1 : Hc) : fin h (.nx sl h1) = tidy h.length .non h1 := rfl
theorem fin_ret (c : C) (h h1 : Hc) : fin h (.ret c h1) = tidy h.length c h1 := rfl
theorem fin_err (k : Nat) (ys : List C) (sl : Sl) (h h1 : Hc) : fin h (.err k ys sl h1) = tidyX h.length k ys h1 := rfl

/-! ### sizes -/
def Bd (k : Nat) (i : Int) : Prop := i.natAbs < 2 ^ k
theorem Bd.mono {a b : Nat} {i : Int} (h : Bd a i) (l : a ≤ b) : Bd b i := Nat.lt_of_lt_of_le h (Nat.pow_le_pow_right (by decide) l)
theorem Bd.mul {a b : Nat} {i j : Int} (h : Bd a i) (k : Bd b j) : Bd (a + b) (i * j) := by
  unfold Bd at *
  rw [Int.natAbs_mul, Nat.pow_add]
  exact Nat.mul_lt_mul_of_lt_of_lt h k
theorem Bd.add {a : Nat} {i j : Int} (h : Bd a i) (k : Bd a j) : Bd (a + 1) (i + j) := by
  unfold Bd at *
  rw [Nat.pow_succ]
  have := Int.natAbs_add_le i j
  omega
theorem Bd.sub {a : Nat} {i j : Int} (h : Bd a i) (k : Bd a j) : Bd (a + 1) (i - j) := by
  unfold Bd at *
  rw [Nat.pow_succ]
  have := Int.natAbs_sub_le i j
  omega
theorem Bd.neg {a : Nat} {i : Int} (h : Bd a i) : Bd a (-i) := by
  unfold Bd at *
  rw [Int.natAbs_neg]; exact h
theorem Bd.le {a : Nat} {i j : Int} (h : Bd a i) (k : j.natAbs ≤ i.natAbs) : Bd a j := Nat.lt_of_le_of_lt k h
theorem tb_of {i : Int} {a : Nat} (h : Bd a i) (l : a ≤ 60000) : tooBig i = false := by
  unfold tooBig big
  have := h.mono l
  exact decide_eq_false (Nat.not_le.mpr this)
theorem mul_of {a b : Nat} {i j : Int} (h : Bd a i) (k : Bd b j) (l : a ≤ 60000) (l2 : b ≤ 60000) (hc : Hc) : mulC (.int i) (.int j) hc = .ok (.int (i * j)) hc := by
  show (if tooBig i || tooBig j then R.bad else R.ok (C.int (i * j)) hc) = _
  rw [tb_of h l, tb_of k l2]
  rfl
theorem div_of {b : Nat} {i j : Int} (hj : j ≠ 0) (k : Bd b j) (l : b ≤ 8000) (hc : Hc) : divC (.int i) (.int j) hc = .ok (.int (i.fdiv j)) hc := by
  show (if j = 0 ∨ divLine ≤ j.natAbs then R.bad else R.ok (C.int (i.fdiv j)) hc) = _
  rw [if_neg]
  rintro (z | z)
  · exact hj z
  · have := k.mono l
    unfold divLine at z
    exact absurd this (Nat.not_lt.mpr z)
theorem mod_of {i j : Int} (hj : j ≠ 0) (hc : Hc) : modC (.int i) (.int j) hc = .ok (.int (i.fmod j)) hc := by
  show (if j = 0 then R.bad else R.ok (C.int (i.fmod j)) hc) = _
  rw [if_neg hj]
theorem bd_small {i : Int} (h1 : -1000000000000000000000 < i) (h2 : i < 1000000000000000000000) : Bd 80 i := by
  unfold Bd
  omega
theorem eq_int (h : Hc) (i j : Int) : cmpop .eq (.int i) (.int j) h = .ok (.bl (i == j)) h := rfl
theorem ne_int (h : Hc) (i j : Int) : cmpop .ne (.int i) (.int j) h = .ok (.bl (!(i == j))) h := rfl
mutual
theorem pd_refl : ∀ d : PyData, d.hasDict = false → pdEq d d = true
  | .none, _ => rfl
  | .bool b, _ => by show (b == b) = true; simp
  | .int i, _ => by show (i == i) = true; simp
  | .str x, _ => by show (x == x) = true; simp
  | .list xs, h => pds_refl xs h
  | .tuple xs, h => pds_refl xs h
  | .dict _, h => by cases h
theorem pds_refl : ∀ ds : List PyData, PyData.hasDictAll ds = false → pdEqs ds ds = true
  | [], _ => rfl
  | d :: ds, h => by
    have h : (d.hasDict || PyData.hasDictAll ds) = false := h
    obtain ⟨h1, h2⟩ := Bool.or_eq_false_iff.mp h
    show (pdEq d d && pdEqs ds ds) = true
    rw [pd_refl d h1, pds_refl ds h2]
    rfl
end
end Sh
set_option Elab.async false
set_option linter.all false
set_option autoImplicit false
set_option maxRecDepth 100000
set_option maxHeartbeats 4000000
/-! Sh, part Q: what a call does with a store of its own it does beside any other closed store (the frame). -/
namespace Sh
open PySem
mutual
def C.sh (n : Nat) : C → C
  | .tup cs => .tup (C.shs n cs)
  | .ref k => .ref (n + k)
  | .frz cs => .frz (C.shs n cs)
  | .non => .non
  | .bl b => .bl b
  | .int i => .int i
  | .str x => .str x
  | .rep d => .rep d
def C.shs (n : Nat) : List C → List C
  | [] => []
  | c :: cs => C.sh n c :: C.shs n cs
end
theorem shs_map (n : Nat) : ∀ cs : List C, C.shs n cs = cs.map (C.sh n)
  | [] => rfl
  | c :: cs => by show C.sh n c :: C.shs n cs = _; rw [shs_map n cs]; rfl
theorem shs_len (n : Nat) (cs : List C) : (C.shs n cs).length = cs.length := by rw [shs_map, List.length_map]
theorem shs_get (n : Nat) (cs : List C) (i : Nat) : (C.shs n cs)[i]? = (cs[i]?).map (C.sh n) := by rw [shs_map, List.getElem?_map]
theorem shs_app (n : Nat) (a b : List C) : C.shs n (a ++ b) = C.shs n a ++ C.shs n b := by rw [shs_map, shs_map, shs_map, List.map_append]
theorem shs_set (n : Nat) (a : List C) (i : Nat) (c : C) : C.shs n (a.set i c) = (C.shs n a).set i (C.sh n c) := by rw [shs_map, shs_map, List.map_set]
theorem shs_take (n : Nat) (a : List C) (i : Nat) : C.shs n (a.take i) = (C.shs n a).take i := by rw [shs_map, shs_map, List.map_take]
theorem shs_drop (n : Nat) (a : List C) (i : Nat) : C.shs n (a.drop i) = (C.shs n a).drop i := by rw [shs_map, shs_map, List.map_drop]
theorem shs_rev (n : Nat) (a : List C) : C.shs n a.reverse = (C.shs n a).reverse := by rw [shs_map, shs_map, List.map_reverse]
theorem shs_droplast (n : Nat) (a : List C) : C.shs n a.dropLast = (C.shs n a).dropLast := by rw [shs_map, shs_map, List.map_dropLast]
theorem shs_nil (n : Nat) (a : List C) : C.shs n a = [] ↔ a = [] := by cases a <;> simp [C.shs]
theorem shs_emp (n : Nat) (a : List C) : (C.shs n a).isEmpty = a.isEmpty := by cases a <;> rfl
mutual
def C.nr : C → Bool
  | .tup cs => C.nrs cs
  | .ref _ => false
  | .frz cs => C.nrs cs
  | _ => true
def C.nrs : List C → Bool
  | [] => true
  | c :: cs => C.nr c && C.nrs cs
end
mutual
theorem nr_sh (n : Nat) : ∀ c : C, c.nr = true → C.sh n c = c
  | .tup cs, h => by show C.tup (C.shs n cs) = _; rw [nrs_shs n cs h]
  | .ref _, h => by cases h
  | .frz cs, h => by show C.frz (C.shs n cs) = _; rw [nrs_shs n cs h]
  | .non, _ => rfl
  | .bl _, _ => rfl
  | .int _, _ => rfl
  | .str _, _ => rfl
  | .rep _, _ => rfl
theorem nrs_shs (n : Nat) : ∀ cs : List C, C.nrs cs = true → C.shs n cs = cs
  | [], _ => rfl
  | c :: cs, h => by
    obtain ⟨h1, h2⟩ := Bool.and_eq_true_iff.mp (h : (C.nr c && C.nrs cs) = true)
    show C.sh n c :: C.shs n cs = _
    rw [nr_sh n c h1, nrs_shs n cs h2]
end
mutual
theorem sh_sh (n m : Nat) : ∀ c : C, C.sh n (C.sh m c) = C.sh (n + m) c
  | .tup cs => by show C.tup (C.shs n (C.shs m cs)) = C.tup _; rw [shs_shs n m cs]
  | .ref k => by show C.ref (n + (m + k)) = C.ref (n + m + k); rw [Nat.add_assoc]
  | .frz cs => by show C.frz (C.shs n (C.shs m cs)) = C.frz _; rw [shs_shs n m cs]
  | .non => rfl
  | .bl _ => rfl
  | .int _ => rfl
  | .str _ => rfl
  | .rep _ => rfl
theorem shs_shs (n m : Nat) : ∀ cs : List C, C.shs n (C.shs m cs) = C.shs (n + m) cs
  | [] => rfl
  | c :: cs => by show C.sh n (C.sh m c) :: C.shs n (C.shs m cs) = _; rw [sh_sh n m c, shs_shs n m cs]; rfl
end
mutual
theorem under_sh (n k : Nat) : ∀ c : C, C.under (n + k) (C.sh n c) = C.under k c
  | .tup cs => unders_shs n k cs
  | .ref j => by show decide (n + j < n + k) = decide (j < k); congr 1; simp
  | .frz cs => unders_shs n k cs
  | .non => rfl
  | .bl _ => rfl
  | .int _ => rfl
  | .str _ => rfl
  | .rep _ => rfl
theorem unders_shs (n k : Nat) : ∀ cs : List C, C.unders (n + k) (C.shs n cs) = C.unders k cs
  | [] => rfl
  | c :: cs => by show (C.under (n + k) (C.sh n c) && C.unders (n + k) (C.shs n cs)) = _; rw [under_sh n k c, unders_shs n k cs]; rfl
theorem under_le {a b : Nat} (l : a ≤ b) : ∀ c : C, C.under a c = true → C.under b c = true
  | .tup cs, h => unders_le l cs h
  | .ref j, h => decide_eq_true (Nat.lt_of_lt_of_le (of_decide_eq_true h) l)
  | .frz cs, h => unders_le l cs h
  | .non, _ => rfl
  | .bl _, _ => rfl
  | .int _, _ => rfl
  | .str _, _ => rfl
  | .rep _, _ => rfl
theorem unders_le {a b : Nat} (l : a ≤ b) : ∀ cs : List C, C.unders a cs = true → C.unders b cs = true
  | [], _ => rfl
  | c :: cs, h => by
    obtain ⟨h1, h2⟩ := Bool.and_eq_true_iff.mp (h : (C.under a c && C.unders a cs) = true)
    show (C.under b c && C.unders b cs) = true
    rw [under_le l c h1, unders_le l cs h2]; rfl
end
def fh (h0 h : Hc) : Hc := h0 ++ h.map (C.shs h0.length)
def ClH (h0 : Hc) : Prop := h0.all (C.unders h0.length) = true
variable {h0 : Hc}
theorem fh_nil (h0 : Hc) : fh h0 [] = h0 := by unfold fh; simp
theorem fh_len (h : Hc) : (fh h0 h).length = h0.length + h.length := by unfold fh; simp
theorem fh_get (h : Hc) (k : Nat) : (fh h0 h)[h0.length + k]? = (h[k]?).map (C.shs h0.length) := by
  unfold fh
  rw [List.getElem?_append_right (by omega), List.getElem?_map]
  congr 2
  omega
theorem fh_push (h : Hc) (xs : List C) : fh h0 h ++ [C.shs h0.length xs] = fh h0 (h ++ [xs]) := by unfold fh; simp
theorem fh_set (h : Hc) (k : Nat) (xs : List C) : (fh h0 h).set (h0.length + k) (C.shs h0.length xs) = fh h0 (h.set k xs) := by
  unfold fh
  rw [List.set_append_right _ _ (by omega), List.map_set]
  congr 2
  omega
theorem fh_take (h : Hc) (k : Nat) : (fh h0 h).take (h0.length + k) = fh h0 (h.take k) := by
  unfold fh
  rw [List.take_append, List.take_of_length_le (by omega), List.map_take]
  congr 2
  omega
def R.fr (h0 : Hc) {α β : Type} (g : α → β) : R α → R β
  | .ok a h => .ok (g a) (fh h0 h)
  | .err k xs h => .err k (C.shs h0.length xs) (fh h0 h)
  | .bad => .bad
theorem bind_fr {α α' β β' : Type} {g : α → α'} {g2 : β → β'} {r : R α} {r' : R α'} {f : α → Hc → R β} {f' : α' → Hc → R β'} (e : r' = r.fr h0 g) (ef : ∀ a h, f' (g a) (fh h0 h) = (f a h).fr h0 g2) : r'.bind f' = (r.bind f).fr h0 g2 := by
  subst e
  cases r with
  | ok a h => exact ef a h
  | err k xs h => rfl
  | bad => rfl
theorem noerr_fr {α β : Type} {g : α → β} (r : R α) : (r.fr h0 g).noerr = (r.noerr).fr h0 g := by cases r <;> rfl
abbrev shn (h0 : Hc) : C → C := C.sh h0.length
abbrev shsn (h0 : Hc) : List C → List C := C.shs h0.length
theorem seqOf_fr (h : Hc) (x : C) : seqOf (fh h0 h) (shn h0 x) = (seqOf h x).map (shsn h0) := by
  cases x with
  | ref k => exact fh_get h k
  | _ => rfl
theorem mapM_shs {β : Type} (n : Nat) {f g : C → Option β} (e : ∀ c, f (C.sh n c) = g c) : ∀ cs : List C, (C.shs n cs).mapM f = cs.mapM g
  | [] => rfl
  | c :: cs => by
    show List.mapM f (C.sh n c :: C.shs n cs) = _
    rw [List.mapM_cons, List.mapM_cons, e, mapM_shs n e cs]
theorem toD_fr (h : Hc) : ∀ (n : Nat) (c : C), toD (fh h0 h) n (shn h0 c) = toD h n c
  | 0, _ => rfl
  | n + 1, c => by
    have ih := toD_fr h n
    cases c with
    | tup cs => show ((C.shs h0.length cs).mapM (toD (fh h0 h) n)).map PyData.tuple = (cs.mapM (toD h n)).map PyData.tuple; rw [mapM_shs _ ih]
    | frz cs => show ((C.shs h0.length cs).mapM (toD (fh h0 h) n)).map PyData.list = (cs.mapM (toD h n)).map PyData.list; rw [mapM_shs _ ih]
    | ref k =>
      show (match (fh h0 h)[h0.length + k]? with | some cs => (cs.mapM (toD (fh h0 h) n)).map PyData.list | none => none) = (match h[k]? with | some cs => (cs.mapM (toD h n)).map PyData.list | none => none)
      rw [fh_get]
      cases h[k]? with
      | none => rfl
      | some cs => show ((C.shs h0.length cs).mapM (toD (fh h0 h) n)).map PyData.list = _; rw [mapM_shs _ ih]
    | _ => rfl
theorem eqFar_fr (h : Hc) (n : Nat) (x y : C) : eqFar (fh h0 h) n (shn h0 x) (shn h0 y) = eqFar h n x y := by
  unfold eqFar
  rw [toD_fr, toD_fr]
theorem both_fr {f g : C → C → Option Bool} {n : Nat} (e : ∀ x y, f (C.sh n x) (C.sh n y) = g x y) : ∀ xs ys : List C, both f (C.shs n xs) (C.shs n ys) = both g xs ys
  | [], [] => rfl
  | [], _ :: _ => rfl
  | _ :: _, [] => rfl
  | x :: xs, y :: ys => by
    show (match f (C.sh n x) (C.sh n y) with
      | none => none
      | some b => match both f (C.shs n xs) (C.shs n ys) with
        | none => none
        | some c => some (b && c)) = (match g x y with
      | none => none
      | some b => match both g xs ys with
        | none => none
        | some c => some (b && c))
    rw [e, both_fr e xs ys]
theorem ceq_fr (h : Hc) : ∀ (n : Nat) (x y : C), ceq (fh h0 h) n (shn h0 x) (shn h0 y) = ceq h n x y
  | 0, _, _ => rfl
  | n + 1, x, y => by
    have ih := ceq_fr h n
    have ef := eqFar_fr (h0 := h0) h (n + 1) x y
    cases x <;> cases y
    case tup.tup xs ys =>
      show (if (C.shs h0.length xs).length = (C.shs h0.length ys).length then both (ceq (fh h0 h) n) (C.shs h0.length xs) (C.shs h0.length ys) else eqFar (fh h0 h) (n + 1) _ _) = (if xs.length = ys.length then both (ceq h n) xs ys else eqFar h (n + 1) _ _)
      rw [shs_len, shs_len, both_fr ih, ← ef]
    case ref.ref a b =>
      show (match (fh h0 h)[h0.length + a]?, (fh h0 h)[h0.length + b]? with
        | some xs, some ys => if xs.length = ys.length then both (ceq (fh h0 h) n) xs ys else eqFar (fh h0 h) (n + 1) (.ref (h0.length + a)) (.ref (h0.length + b))
        | _, _ => none) = (match h[a]?, h[b]? with
        | some xs, some ys => if xs.length = ys.length then both (ceq h n) xs ys else eqFar h (n + 1) (.ref a) (.ref b)
        | _, _ => none)
      rw [fh_get, fh_get]
      cases h[a]? with
      | none => rfl
      | some xs =>
        cases h[b]? with
        | none => rfl
        | some ys =>
          show (if (C.shs h0.length xs).length = (C.shs h0.length ys).length then both (ceq (fh h0 h) n) (C.shs h0.length xs) (C.shs h0.length ys) else eqFar (fh h0 h) (n + 1) _ _) = (if xs.length = ys.length then both (ceq h n) xs ys else eqFar h (n + 1) _ _)
          rw [shs_len, shs_len, both_fr ih, ← ef]
          rfl
    case rep.rep d e =>
      show (if pdEq d e then some true else eqFar (fh h0 h) (n + 1) (.rep d) (.rep e)) = (if pdEq d e then some true else eqFar h (n + 1) (.rep d) (.rep e))
      rw [← ef]; rfl
    case int.int i j => rfl
    all_goals exact ef
theorem addC_fr (h : Hc) (x y : C) : addC (shn h0 x) (shn h0 y) (fh h0 h) = (addC x y h).fr h0 (shn h0) := by
  cases x <;> cases y
  case tup.tup xs ys =>
    show (if lineN < (C.shs h0.length xs).length + (C.shs h0.length ys).length then R.bad else .ok (.tup (C.shs h0.length xs ++ C.shs h0.length ys)) (fh h0 h)) = R.fr h0 (shn h0) (if lineN < xs.length + ys.length then .bad else .ok (.tup (xs ++ ys)) h)
    rw [shs_len, shs_len, ← shs_app]
    split <;> rfl
  case ref.ref a b =>
    show (match (fh h0 h)[h0.length + a]?, (fh h0 h)[h0.length + b]? with
      | some xs, some ys => if lineN < xs.length + ys.length then R.bad else .ok (C.ref (fh h0 h).length) (fh h0 h ++ [xs ++ ys])
      | _, _ => .bad) = R.fr h0 (shn h0) (match h[a]?, h[b]? with
      | some xs, some ys => if lineN < xs.length + ys.length then R.bad else .ok (C.ref h.length) (h ++ [xs ++ ys])
      | _, _ => .bad)
    rw [fh_get, fh_get]
    cases h[a]? with
    | none => rfl
    | some xs =>
      cases h[b]? with
      | none => rfl
      | some ys =>
        show (if lineN < (shsn h0 xs).length + (shsn h0 ys).length then R.bad else .ok (C.ref (fh h0 h).length) (fh h0 h ++ [shsn h0 xs ++ shsn h0 ys])) = R.fr h0 (shn h0) (if lineN < xs.length + ys.length then R.bad else .ok (C.ref h.length) (h ++ [xs ++ ys]))
        rw [shs_len, shs_len, ← shs_app, fh_push, fh_len]
        split <;> rfl
  case str.str a b =>
    show (if lineN < a.length + b.length then R.bad else .ok (.str (a ++ b)) (fh h0 h)) = R.fr h0 (shn h0) (if lineN < a.length + b.length then R.bad else .ok (.str (a ++ b)) h)
    split <;> rfl
  all_goals rfl
theorem subC_fr (h : Hc) (x y : C) : subC (shn h0 x) (shn h0 y) (fh h0 h) = (subC x y h).fr h0 (shn h0) := by
  cases x <;> cases y <;> rfl
theorem mulC_fr (h : Hc) (x y : C) : mulC (shn h0 x) (shn h0 y) (fh h0 h) = (mulC x y h).fr h0 (shn h0) := by
  cases x <;> cases y
  case int.int i j =>
    show (if tooBig i || tooBig j then R.bad else .ok (C.int (i * j)) (fh h0 h)) = R.fr h0 (shn h0) (if tooBig i || tooBig j then R.bad else .ok (C.int (i * j)) h)
    split <;> rfl
  case ref.int a k =>
    show (match (fh h0 h)[h0.length + a]? with
      | some xs => if k < 0 ∨ lineN < xs.length * k.toNat ∨ 1000000000 ≤ k then R.bad else .ok (C.ref (fh h0 h).length) (fh h0 h ++ [(List.replicate k.toNat xs).flatten])
      | _ => .bad) = R.fr h0 (shn h0) (match h[a]? with
      | some xs => if k < 0 ∨ lineN < xs.length * k.toNat ∨ 1000000000 ≤ k then R.bad else .ok (C.ref h.length) (h ++ [(List.replicate k.toNat xs).flatten])
      | _ => .bad)
    rw [fh_get]
    cases h[a]? with
    | none => rfl
    | some xs =>
      show (if k < 0 ∨ lineN < (shsn h0 xs).length * k.toNat ∨ 1000000000 ≤ k then R.bad else .ok (C.ref (fh h0 h).length) (fh h0 h ++ [(List.replicate k.toNat (shsn h0 xs)).flatten])) = R.fr h0 (shn h0) (if k < 0 ∨ lineN < xs.length * k.toNat ∨ 1000000000 ≤ k then R.bad else .ok (C.ref h.length) (h ++ [(List.replicate k.toNat xs).flatten]))
      have e : (List.replicate k.toNat (shsn h0 xs)).flatten = shsn h0 (List.replicate k.toNat xs).flatten := by
        show (List.replicate k.toNat (C.shs h0.length xs)).flatten = C.shs h0.length (List.replicate k.toNat xs).flatten
        rw [shs_map, shs_map, List.map_flatten, List.map_replicate]
      rw [shs_len, e, fh_push, fh_len]
      split <;> rfl
  case tup.int xs k =>
    show (if shsn h0 xs = [] ∨ k < 2 ∨ 1000 < k ∨ 1000 < (shsn h0 xs).length then R.bad else .ok (C.tup (List.replicate k.toNat (shsn h0 xs)).flatten) (fh h0 h)) = R.fr h0 (shn h0) (if xs = [] ∨ k < 2 ∨ 1000 < k ∨ 1000 < xs.length then R.bad else .ok (C.tup (List.replicate k.toNat xs).flatten) h)
    have e : (List.replicate k.toNat (shsn h0 xs)).flatten = shsn h0 (List.replicate k.toNat xs).flatten := by
      show (List.replicate k.toNat (C.shs h0.length xs)).flatten = C.shs h0.length (List.replicate k.toNat xs).flatten
      rw [shs_map, shs_map, List.map_flatten, List.map_replicate]
    rw [shs_len, e]
    by_cases c : xs = [] ∨ k < 2 ∨ 1000 < k ∨ 1000 < xs.length
    · rw [if_pos c, if_pos (by rw [shs_nil]; exact c)]; rfl
    · rw [if_neg c, if_neg (by rw [shs_nil]; exact c)]; rfl
  all_goals rfl
theorem divC_fr (h : Hc) (x y : C) : divC (shn h0 x) (shn h0 y) (fh h0 h) = (divC x y h).fr h0 (shn h0) := by
  cases x <;> cases y
  case int.int i j =>
    show (if j = 0 ∨ divLine ≤ j.natAbs then R.bad else .ok (C.int (i.fdiv j)) (fh h0 h)) = R.fr h0 (shn h0) (if j = 0 ∨ divLine ≤ j.natAbs then R.bad else .ok (C.int (i.fdiv j)) h)
    split <;> rfl
  all_goals rfl
theorem modC_fr (h : Hc) (x y : C) : modC (shn h0 x) (shn h0 y) (fh h0 h) = (modC x y h).fr h0 (shn h0) := by
  cases x <;> cases y
  case int.int i j =>
    show (if j = 0 then R.bad else .ok (C.int (i.fmod j)) (fh h0 h)) = R.fr h0 (shn h0) (if j = 0 then R.bad else .ok (C.int (i.fmod j)) h)
    split <;> rfl
  all_goals rfl
theorem powC_fr (h : Hc) (x y : C) : powC (shn h0 x) (shn h0 y) (fh h0 h) = (powC x y h).fr h0 (shn h0) := by
  cases x <;> cases y
  case int.int i j =>
    show (if 0 ≤ j ∧ j ≤ 1000 ∧ i.natAbs < 18446744073709551616 then R.ok (C.int (i ^ j.toNat)) (fh h0 h) else .bad) = R.fr h0 (shn h0) (if 0 ≤ j ∧ j ≤ 1000 ∧ i.natAbs < 18446744073709551616 then R.ok (C.int (i ^ j.toNat)) h else .bad)
    split <;> rfl
  all_goals rfl
theorem binop_fr (o : Op) (h : Hc) (x y : C) : binop o (shn h0 x) (shn h0 y) (fh h0 h) = (binop o x y h).fr h0 (shn h0) := by
  cases o
  · exact addC_fr h x y
  · exact subC_fr h x y
  · exact mulC_fr h x y
  · exact divC_fr h x y
  · exact modC_fr h x y
  · exact powC_fr h x y
theorem augC_fr (o : Op) (h : Hc) (i j : Int) : augC o i j (fh h0 h) = (augC o i j h).fr h0 (shn h0) := by
  cases o
  case mul =>
    show (if tooBig i || tooBig j then R.bad else .ok (C.int (i * j)) (fh h0 h)) = R.fr h0 (shn h0) (if tooBig i || tooBig j then R.bad else .ok (C.int (i * j)) h)
    split <;> rfl
  all_goals rfl
theorem isS_fr (x y : C) : isS (shn h0 x) (shn h0 y) = isS x y := by cases x <;> cases y <;> rfl
theorem cmpop_fr (o : Cm) (h : Hc) (x y : C) : cmpop o (shn h0 x) (shn h0 y) (fh h0 h) = (cmpop o x y h).fr h0 (shn h0) := by
  cases o
  case eq =>
    show (match ceq (fh h0 h) 40 (shn h0 x) (shn h0 y) with
      | some b => R.ok (C.bl b) (fh h0 h)
      | none => .bad) = R.fr h0 (shn h0) (match ceq h 40 x y with
      | some b => R.ok (C.bl b) h
      | none => .bad)
    rw [ceq_fr]
    cases ceq h 40 x y <;> rfl
  case ne =>
    show (match ceq (fh h0 h) 40 (shn h0 x) (shn h0 y) with
      | some b => R.ok (C.bl (!b)) (fh h0 h)
      | none => .bad) = R.fr h0 (shn h0) (match ceq h 40 x y with
      | some b => R.ok (C.bl (!b)) h
      | none => .bad)
    rw [ceq_fr]
    cases ceq h 40 x y <;> rfl
  case is_ =>
    show (match isS (shn h0 x) (shn h0 y) with
      | some b => R.ok (C.bl b) (fh h0 h)
      | none => .bad) = R.fr h0 (shn h0) (match isS x y with
      | some b => R.ok (C.bl b) h
      | none => .bad)
    rw [isS_fr]
    cases isS x y <;> rfl
  case isn =>
    show (match isS (shn h0 x) (shn h0 y) with
      | some b => R.ok (C.bl (!b)) (fh h0 h)
      | none => .bad) = R.fr h0 (shn h0) (match isS x y with
      | some b => R.ok (C.bl (!b)) h
      | none => .bad)
    rw [isS_fr]
    cases isS x y <;> rfl
  case in_ => rfl
  case nin => rfl
  all_goals (cases x <;> cases y <;> rfl)
theorem truth_fr (h : Hc) (x : C) : truth (shn h0 x) (fh h0 h) = (truth x h).fr h0 id := by
  have e := seqOf_fr (h0 := h0) h x
  cases x
  case str z =>
    show (if z.length ≤ lineN then R.ok ((z.length : Int) != 0) (fh h0 h) else .bad) = R.fr h0 id (if z.length ≤ lineN then R.ok ((z.length : Int) != 0) h else .bad)
    split <;> rfl
  case ref k =>
    show (match seqOf (fh h0 h) (shn h0 (.ref k)) with
      | some xs => R.ok (!xs.isEmpty) (fh h0 h)
      | none => .bad) = R.fr h0 id (match seqOf h (.ref k) with
      | some xs => R.ok (!xs.isEmpty) h
      | none => .bad)
    rw [e]
    cases seqOf h (.ref k) with
    | none => rfl
    | some xs => show R.ok (!(shsn h0 xs).isEmpty) _ = _; rw [shs_emp]; rfl
  case tup cs => show R.ok (!(shsn h0 cs).isEmpty) _ = _; rw [shs_emp]; rfl
  case frz cs => show R.ok (!(shsn h0 cs).isEmpty) _ = _; rw [shs_emp]; rfl
  all_goals rfl
theorem item_fr (h : Hc) (x y : C) : item (shn h0 x) (shn h0 y) (fh h0 h) = (item x y h).fr h0 (shn h0) := by
  cases y
  case int i =>
    show (match seqOf (fh h0 h) (shn h0 x) with
      | some xs => match (ixC xs.length i).bind fun j => xs[j]? with
        | some c => R.ok c (fh h0 h)
        | none => .bad
      | none => .bad) = R.fr h0 (shn h0) (match seqOf h x with
      | some xs => match (ixC xs.length i).bind fun j => xs[j]? with
        | some c => R.ok c h
        | none => .bad
      | none => .bad)
    rw [seqOf_fr]
    cases seqOf h x with
    | none => rfl
    | some xs =>
      show (match (ixC (shsn h0 xs).length i).bind fun j => (shsn h0 xs)[j]? with
        | some c => R.ok c (fh h0 h)
        | none => .bad) = R.fr h0 (shn h0) (match (ixC xs.length i).bind fun j => xs[j]? with
        | some c => R.ok c h
        | none => .bad)
      rw [shs_len]
      cases ixC xs.length i with
      | none => rfl
      | some j =>
        show (match (shsn h0 xs)[j]? with
          | some c => R.ok c (fh h0 h)
          | none => .bad) = R.fr h0 (shn h0) (match xs[j]? with
          | some c => R.ok c h
          | none => .bad)
        rw [shs_get]
        cases xs[j]? <;> rfl
  all_goals rfl
theorem setitem_fr (h : Hc) (x y z : C) : setitem (shn h0 x) (shn h0 y) (shn h0 z) (fh h0 h) = (setitem x y z h).fr h0 id := by
  cases x <;> cases y
  case ref.int n i =>
    show (match (fh h0 h)[h0.length + n]? with
      | some xs => match ixC xs.length i with
        | some j => R.ok () ((fh h0 h).set (h0.length + n) (xs.set j (shn h0 z)))
        | none => .bad
      | none => .bad) = R.fr h0 id (match h[n]? with
      | some xs => match ixC xs.length i with
        | some j => R.ok () (h.set n (xs.set j z))
        | none => .bad
      | none => .bad)
    rw [fh_get]
    cases h[n]? with
    | none => rfl
    | some xs =>
      show (match ixC (shsn h0 xs).length i with
        | some j => R.ok () ((fh h0 h).set (h0.length + n) ((shsn h0 xs).set j (shn h0 z)))
        | none => .bad) = R.fr h0 id (match ixC xs.length i with
        | some j => R.ok () (h.set n (xs.set j z))
        | none => .bad)
      rw [shs_len]
      cases ixC xs.length i with
      | none => rfl
      | some j => show R.ok () ((fh h0 h).set (h0.length + n) ((shsn h0 xs).set j (shn h0 z))) = R.ok () (fh h0 (h.set n (xs.set j z))); rw [← shs_set, fh_set]
  all_goals rfl
theorem cutC_fr (xs : List C) (lo hi : Option Int) : cutC (shsn h0 xs) lo hi = shsn h0 (cutC xs lo hi) := by
  unfold cutC
  rw [shs_len, ← shs_drop, ← shs_take]
theorem slice_fr (h : Hc) (x : C) (lo hi : Option Int) : slice (shn h0 x) lo hi (fh h0 h) = (slice x lo hi h).fr h0 (shn h0) := by
  cases x
  case ref n =>
    show (match (fh h0 h)[h0.length + n]? with
      | some xs => R.ok (C.ref (fh h0 h).length) (fh h0 h ++ [cutC xs lo hi])
      | none => .bad) = R.fr h0 (shn h0) (match h[n]? with
      | some xs => R.ok (C.ref h.length) (h ++ [cutC xs lo hi])
      | none => .bad)
    rw [fh_get]
    cases h[n]? with
    | none => rfl
    | some xs =>
      show R.ok (C.ref (fh h0 h).length) (fh h0 h ++ [cutC (shsn h0 xs) lo hi]) = R.ok (C.ref (h0.length + h.length)) (fh h0 (h ++ [cutC xs lo hi]))
      rw [cutC_fr, fh_push, fh_len]
  case frz xs =>
    show R.ok (C.ref (fh h0 h).length) (fh h0 h ++ [cutC (shsn h0 xs) lo hi]) = R.ok (C.ref (h0.length + h.length)) (fh h0 (h ++ [cutC xs lo hi]))
    rw [cutC_fr, fh_push, fh_len]
  case tup xs =>
    show R.ok (C.tup (cutC (shsn h0 xs) lo hi)) (fh h0 h) = R.ok (C.tup (C.shs h0.length (cutC xs lo hi))) (fh h0 h)
    rw [cutC_fr]
  all_goals rfl
theorem isiC_fr (x : C) (t : Ty) : isiC (shn h0 x) t = isiC x t := by cases x <;> rfl
theorem intsC_fr : ∀ xs : List C, intsC (shsn h0 xs) = intsC xs
  | [] => rfl
  | c :: cs => by
    cases c
    case int i => show (intsC (shsn h0 cs)).map (i :: ·) = (intsC cs).map (i :: ·); rw [intsC_fr cs]
    all_goals rfl
theorem ints_fr (h : Hc) (n : Nat) : ((fh h0 h)[h0.length + n]?).bind intsC = (h[n]?).bind intsC := by
  rw [fh_get]
  cases h[n]? with
  | none => rfl
  | some xs => exact intsC_fr xs
theorem bi_fr (b : Bi) (h : Hc) (xs : List C) : bi b (shsn h0 xs) (fh h0 h) = (bi b xs h).fr h0 (shn h0) := by
  cases xs with
  | nil => cases b <;> rfl
  | cons x xs =>
    cases xs with
    | nil =>
      cases b
      case len =>
        have e := seqOf_fr (h0 := h0) h x
        cases x
        case str z =>
          show (if z.length ≤ lineN then R.ok (C.int z.length) (fh h0 h) else .bad) = R.fr h0 (shn h0) (if z.length ≤ lineN then R.ok (C.int z.length) h else .bad)
          split <;> rfl
        case ref k =>
          show (match seqOf (fh h0 h) (shn h0 (.ref k)) with
            | some ys => R.ok (C.int ys.length) (fh h0 h)
            | none => .bad) = R.fr h0 (shn h0) (match seqOf h (.ref k) with
            | some ys => R.ok (C.int ys.length) h
            | none => .bad)
          rw [e]
          cases seqOf h (.ref k) with
          | none => rfl
          | some ys => show R.ok (C.int (shsn h0 ys).length) _ = _; rw [shs_len]; rfl
        case tup ys => show R.ok (C.int (shsn h0 ys).length) _ = R.ok (C.int ys.length) _; rw [shs_len]
        case frz ys => show R.ok (C.int (shsn h0 ys).length) _ = R.ok (C.int ys.length) _; rw [shs_len]
        all_goals rfl
      case abs => cases x <;> rfl
      case int => cases x <;> rfl
      case repr =>
        show (match datum (fh h0 h) (shn h0 x) with
          | some d => if d.showable && SeqAt.shaped d && shortD d then R.ok (C.rep d) (fh h0 h) else .bad
          | none => .bad) = R.fr h0 (shn h0) (match datum h x with
          | some d => if d.showable && SeqAt.shaped d && shortD d then R.ok (C.rep d) h else .bad
          | none => .bad)
        rw [show datum (fh h0 h) (shn h0 x) = datum h x from toD_fr h 60 x]
        cases datum h x with
        | none => rfl
        | some d => dsimp only; split <;> rfl
      case tuple =>
        cases x
        case ref n =>
          show (match (fh h0 h)[h0.length + n]? with
            | some cs => R.ok (C.tup cs) (fh h0 h)
            | none => .bad) = R.fr h0 (shn h0) (match h[n]? with
            | some cs => R.ok (C.tup cs) h
            | none => .bad)
          rw [fh_get]
          cases h[n]? <;> rfl
        all_goals rfl
      case list =>
        show (match seqOf (fh h0 h) (shn h0 x) with
          | some cs => R.ok (C.ref (fh h0 h).length) (fh h0 h ++ [cs])
          | none => .bad) = R.fr h0 (shn h0) (match seqOf h x with
          | some cs => R.ok (C.ref h.length) (h ++ [cs])
          | none => .bad)
        rw [seqOf_fr]
        cases seqOf h x with
        | none => rfl
        | some cs => show R.ok (C.ref (fh h0 h).length) (fh h0 h ++ [shsn h0 cs]) = R.ok (C.ref (h0.length + h.length)) (fh h0 (h ++ [cs])); rw [fh_push, fh_len]
      case sum =>
        cases x
        case ref n =>
          show (match ((fh h0 h)[h0.length + n]?).bind intsC with
            | some ns => R.ok (C.int ns.sum) (fh h0 h)
            | none => .bad) = R.fr h0 (shn h0) (match (h[n]?).bind intsC with
            | some ns => R.ok (C.int ns.sum) h
            | none => .bad)
          rw [ints_fr]
          cases (h[n]?).bind intsC <;> rfl
        all_goals rfl
      case maxL =>
        cases x
        case ref n =>
          show (match ((fh h0 h)[h0.length + n]?).bind intsC with
            | some (x :: r) => R.ok (C.int (maxI x r)) (fh h0 h)
            | _ => .bad) = R.fr h0 (shn h0) (match (h[n]?).bind intsC with
            | some (x :: r) => R.ok (C.int (maxI x r)) h
            | _ => .bad)
          rw [ints_fr]
          cases (h[n]?).bind intsC with
          | none => rfl
          | some l => cases l <;> rfl
        all_goals rfl
      case minL =>
        cases x
        case ref n =>
          show (match ((fh h0 h)[h0.length + n]?).bind intsC with
            | some (x :: r) => R.ok (C.int (minI x r)) (fh h0 h)
            | _ => .bad) = R.fr h0 (shn h0) (match (h[n]?).bind intsC with
            | some (x :: r) => R.ok (C.int (minI x r)) h
            | _ => .bad)
          rw [ints_fr]
          cases (h[n]?).bind intsC with
          | none => rfl
          | some l => cases l <;> rfl
        all_goals rfl
      all_goals (cases x <;> rfl)
    | cons y ys =>
      cases ys with
      | nil =>
        cases b
        case divmod =>
          cases x <;> cases y
          case int.int i j =>
            show (if 0 < j ∧ j < 1000000000 then R.ok (C.tup [.int (i / j), .int (i % j)]) (fh h0 h) else .bad) = R.fr h0 (shn h0) (if 0 < j ∧ j < 1000000000 then R.ok (C.tup [.int (i / j), .int (i % j)]) h else .bad)
            split <;> rfl
          all_goals rfl
        all_goals (cases x <;> cases y <;> rfl)
      | cons z zs => cases b <;> cases x <;> cases y <;> rfl
def ItV.sh (n : Nat) : ItV → ItV
  | .lst k => .lst (n + k)
  | .tre cs => .tre (C.shs n cs)
  | .rng lo m => .rng lo m
  | .revl k j => .revl (n + k) j
  | .revt cs => .revt (C.shs n cs)
  | .enl k => .enl (n + k)
  | .ent cs => .ent (C.shs n cs)
theorem at_fr (it : ItV) (i : Nat) (h : Hc) : (it.sh h0.length).at_ i (fh h0 h) = (it.at_ i h).map (Option.map (shn h0)) := by
  cases it with
  | lst k =>
    show (match (fh h0 h)[h0.length + k]? with | some cs => some cs[i]? | none => none) = (match h[k]? with | some cs => some cs[i]? | none => none).map (Option.map (shn h0))
    rw [fh_get]
    cases h[k]? with
    | none => rfl
    | some cs => show some (shsn h0 cs)[i]? = some _; rw [shs_get]
  | tre cs => show some (shsn h0 cs)[i]? = some _; rw [shs_get]
  | rng lo n =>
    show (if i < n then some (some (C.int (lo + i))) else some none) = (if i < n then some (some (C.int (lo + i))) else some none).map (Option.map (shn h0))
    split <;> rfl
  | revl n k =>
    show (if i < k then (match (fh h0 h)[h0.length + n]? with
      | some cs => (match cs[k - 1 - i]? with
        | some c => some (some c)
        | none => none)
      | none => none) else some none) = (if i < k then (match h[n]? with
      | some cs => (match cs[k - 1 - i]? with
        | some c => some (some c)
        | none => none)
      | none => none) else some none).map (Option.map (shn h0))
    rw [fh_get]
    split
    · cases h[n]? with
      | none => rfl
      | some cs =>
        show (match (shsn h0 cs)[k - 1 - i]? with | some c => some (some c) | none => none) = (match cs[k - 1 - i]? with | some c => some (some c) | none => none).map (Option.map (shn h0))
        rw [shs_get]
        cases cs[k - 1 - i]? <;> rfl
    · rfl
  | revt cs =>
    show (if i < (shsn h0 cs).length then (match (shsn h0 cs)[(shsn h0 cs).length - 1 - i]? with
      | some c => some (some c)
      | none => none) else some none) = (if i < cs.length then (match cs[cs.length - 1 - i]? with
      | some c => some (some c)
      | none => none) else some none).map (Option.map (shn h0))
    rw [shs_len, shs_get]
    split
    · cases cs[cs.length - 1 - i]? <;> rfl
    · rfl
  | enl n =>
    show (match (fh h0 h)[h0.length + n]? with
      | some cs => some (match cs[i]? with
        | some c => some (C.tup [.int i, c])
        | none => none)
      | none => none) = (match h[n]? with
      | some cs => some (match cs[i]? with
        | some c => some (C.tup [.int i, c])
        | none => none)
      | none => none).map (Option.map (shn h0))
    rw [fh_get]
    cases h[n]? with
    | none => rfl
    | some cs =>
      show some (match (shsn h0 cs)[i]? with
        | some c => some (C.tup [.int i, c])
        | none => none) = some (Option.map (shn h0) (match cs[i]? with
        | some c => some (C.tup [.int i, c])
        | none => none))
      rw [shs_get]
      cases cs[i]? <;> rfl
  | ent cs =>
    show some (match (shsn h0 cs)[i]? with
      | some c => some (C.tup [.int i, c])
      | none => none) = some (Option.map (shn h0) (match cs[i]? with
      | some c => some (C.tup [.int i, c])
      | none => none))
    rw [shs_get]
    cases cs[i]? <;> rfl
def slsh (h0 : Hc) (sl : Sl) : Sl := sl.map (Option.map (shn h0))
theorem sl_get (sl : Sl) (i : Nat) : (slsh h0 sl)[i]? = (sl[i]?).map (Option.map (shn h0)) := by unfold slsh; rw [List.getElem?_map]
theorem sl_set (sl : Sl) (i : Nat) (c : C) : (slsh h0 sl).set i (some (shn h0 c)) = slsh h0 (sl.set i (some c)) := by unfold slsh; rw [List.map_set]; rfl
theorem sl_setn (sl : Sl) (i : Nat) : (slsh h0 sl).set i none = slsh h0 (sl.set i none) := by unfold slsh; rw [List.map_set]; rfl
theorem wipe_fr (sl : Sl) : ∀ vs : List Nat, wipeC (slsh h0 sl) vs = slsh h0 (wipeC sl vs)
  | [] => rfl
  | v :: vs => by
    show (wipeC (slsh h0 sl) vs).set v none = slsh h0 ((wipeC sl vs).set v none)
    rw [wipe_fr sl vs, sl_setn]
theorem compF_fr {it : ItV} {g g' : C → Sl → Hc → R Sl} {t t' : Sl → Hc → R Bool} {e e' : Sl → Hc → R C} (hg : ∀ c sl h, g' (shn h0 c) (slsh h0 sl) (fh h0 h) = (g c sl h).fr h0 (slsh h0)) (ht : ∀ sl h, t' (slsh h0 sl) (fh h0 h) = (t sl h).fr h0 id) (he : ∀ sl h, e' (slsh h0 sl) (fh h0 h) = (e sl h).fr h0 (shn h0)) :
    ∀ (n i : Nat) (sl : Sl) (acc : List C) (h : Hc), compF (it.sh h0.length) g' t' e' n i (slsh h0 sl) (shsn h0 acc) (fh h0 h) = (compF it g t e n i sl acc h).fr h0 (shsn h0)
  | 0, _, _, _, _ => rfl
  | n + 1, i, sl, acc, h => by
    have ih := compF_fr (it := it) hg ht he n
    unfold compF
    rw [at_fr]
    cases it.at_ i h with
    | none => rfl
    | some o =>
      cases o with
      | none => rfl
      | some c =>
        refine bind_fr (hg c sl h) fun sl1 h1 => bind_fr (ht sl1 h1) fun k h2 => ?_
        cases k with
        | false => exact ih (i + 1) sl acc h2
        | true =>
          refine bind_fr (he sl1 h2) fun x h3 => ?_
          rw [shs_len]
          by_cases hl : acc.length < lineN
          · rw [if_pos hl, if_pos hl]
            have e2 : shsn h0 acc ++ [shn h0 x] = shsn h0 (acc ++ [x]) := (shs_app h0.length acc [x]).symm
            rw [e2]
            exact ih (i + 1) sl (acc ++ [x]) h3
          · rw [if_neg hl, if_neg hl]; rfl
end Sh
set_option Elab.async false
set_option linter.all false
set_option autoImplicit false
set_option maxRecDepth 100000
set_option maxHeartbeats 4000000
/-! Sh, part R: the frame of expressions, statements, calls. -/
namespace Sh
open PySem
mutual
def E.nr : E → Bool
  | .con c => c.nr
  | .var _ => true
  | .glob _ c => c.nr
  | .bin _ a b => a.nr && b.nr
  | .neg a => a.nr
  | .notv a => a.nr
  | .cmp _ a b => a.nr && b.nr
  | .chain _ _ a b c => a.nr && b.nr && c.nr
  | .andv a b => a.nr && b.nr
  | .orv a b => a.nr && b.nr
  | .ite t a b => t.nr && a.nr && b.nr
  | .tup es => es.nr
  | .lst es => es.nr
  | .idx a i => a.nr && i.nr
  | .slc a lo hi => a.nr && lo.nr && hi.nr
  | .call _ es => es.nr
  | .callk _ es ks _ => es.nr && ks.nr
  | .bi _ es => es.nr
  | .isi a _ => a.nr
  | .pop a => a.nr
  | .comp e p it t => e.nr && p.nr && it.nr && t.nr
  | .excf _ => true
  | .excis _ => true
  | .revs a => a.nr
def T.nr : T → Bool
  | .yes => true
  | .tr a => a.nr
  | .chn _ _ a b c => a.nr && b.nr && c.nr
  | .cmp _ a b => a.nr && b.nr
  | .and a b => a.nr && b.nr
  | .or a b => a.nr && b.nr
  | .not a => a.nr
def Es.nr : Es → Bool
  | .nil => true
  | .cons e es => e.nr && es.nr
def Oe.nr : Oe → Bool
  | .none => true
  | .some e => e.nr
def It.nr : It → Bool
  | .seq a => a.nr
  | .rng1 a => a.nr
  | .rng2 a b => a.nr && b.nr
  | .rng3 a b c => a.nr && b.nr && c.nr
  | .enum a => a.nr
  | .zip a b => a.nr && b.nr
  | .rev a => a.nr
  | .revr a => a.nr
def Pt.nr : Pt → Bool
  | .v _ => true
  | .sub o i => o.nr && i.nr
  | .tup ps => ps.nr
def Pts.nr : Pts → Bool
  | .nil => true
  | .cons p ps => p.nr && ps.nr
end
mutual
def S.nr : S → Bool
  | .asg p e => p.nr && e.nr
  | .setc _ e => e.nr
  | .par _ _ a b => a.nr && b.nr
  | .aug _ _ e => e.nr
  | .augi o i _ e => o.nr && i.nr && e.nr
  | .ifs t a b => t.nr && a.nr && b.nr
  | .whl t b => t.nr && b.nr
  | .for_ p it b => p.nr && it.nr && b.nr
  | .ret e => e.nr
  | .retn => true
  | .expr e => e.nr
  | .app o e => o.nr && e.nr
  | .raise _ es => es.nr
  | .brk => true
  | .cnt => true
  | .pass => true
  | .try_ b hs => b.nr && hs.nr
def Ss.nr : Ss → Bool
  | .nil => true
  | .cons s ss => s.nr && ss.nr
def Hs.nr : Hs → Bool
  | .nil => true
  | .cons _ _ b hs => b.nr && hs.nr
end
theorem and2 {a b : Bool} (h : (a && b) = true) : a = true ∧ b = true := Bool.and_eq_true_iff.mp h
variable {h0 : Hc}
def cxsh (h0 : Hc) (cx : Option (Nat × List C)) : Option (Nat × List C) := cx.map fun p => (p.1, shsn h0 p.2)
theorem gK_shs (n : Nat) (a k : Nat) (perm : List Nat) (xs ys : List C) : gK a k perm (C.shs n xs) (C.shs n ys) = C.shs n (gK a k perm xs ys) := by
  unfold gK
  rw [shs_len, shs_len]
  split
  · rw [shs_app, shs_map n (perm.filterMap _), List.map_filterMap]
    congr 1
    refine congrArg (fun f => List.filterMap f perm) (funext fun i => ?_)
    rw [shs_get]
  · rfl
section
variable {call : Nat → List C → Hc → R C} {sub : Nat → Str → Option Bool} {w : Nat} {cx : Option (Nat × List C)} (hc : ∀ f xs h, call f (shsn h0 xs) (fh h0 h) = (call f xs h).fr h0 (shn h0))
include hc
mutual
theorem E_fr : ∀ (e : E), e.nr = true → ∀ (sl : Sl) (h : Hc), E.ev call sub w (cxsh h0 cx) e (slsh h0 sl) (fh h0 h) = (E.ev call sub w cx e sl h).fr h0 (shn h0)
  | .con c, n, sl, h => by show R.ok c _ = R.ok (C.sh _ c) _; rw [nr_sh _ c n]
  | .var i, n, sl, h => by
    unfold E.ev
    rw [sl_get]
    cases sl[i]? with
    | none => rfl
    | some o => cases o <;> rfl
  | .glob x c, n, sl, h => by show R.ok c _ = R.ok (C.sh _ c) _; rw [nr_sh _ c n]
  | .bin o a b, n, sl, h => by
    unfold E.ev
    exact bind_fr (E_fr a (and2 n).1 sl h) fun x h1 => bind_fr (E_fr b (and2 n).2 sl h1) fun y h2 => binop_fr o h2 x y
  | .neg a, n, sl, h => by
    unfold E.ev
    exact bind_fr (E_fr a n sl h) fun x h1 => by cases x <;> rfl
  | .notv a, n, sl, h => by
    unfold E.ev
    exact bind_fr (E_fr a n sl h) fun x h1 => by cases x <;> rfl
  | .cmp o a b, n, sl, h => by
    unfold E.ev
    exact bind_fr (E_fr a (and2 n).1 sl h) fun x h1 => bind_fr (E_fr b (and2 n).2 sl h1) fun y h2 => cmpop_fr o h2 x y
  | .chain o o' a b c, n, sl, h => by
    unfold E.ev
    refine bind_fr (E_fr a (and2 (and2 n).1).1 sl h) fun x h1 => bind_fr (E_fr b (and2 (and2 n).1).2 sl h1) fun y h2 => bind_fr (cmpop_fr o h2 x y) fun z h3 => ?_
    cases z
    case bl k =>
      cases k
      · rfl
      · exact bind_fr (E_fr c (and2 n).2 sl h3) fun u h4 => cmpop_fr o' h4 y u
    all_goals rfl
  | .andv a b, n, sl, h => by
    unfold E.ev
    refine bind_fr (E_fr a (and2 n).1 sl h) fun x h1 => ?_
    cases x
    case bl k =>
      cases k
      · rfl
      · exact E_fr b (and2 n).2 sl h1
    all_goals rfl
  | .orv a b, n, sl, h => by
    unfold E.ev
    refine bind_fr (E_fr a (and2 n).1 sl h) fun x h1 => ?_
    cases x
    case bl k =>
      cases k
      · exact E_fr b (and2 n).2 sl h1
      · rfl
    all_goals rfl
  | .ite t a b, n, sl, h => by
    unfold E.ev
    refine bind_fr (T_fr t (and2 (and2 n).1).1 sl h) fun k h1 => ?_
    cases k
    · exact E_fr b (and2 n).2 sl h1
    · exact E_fr a (and2 (and2 n).1).2 sl h1
  | .tup es, n, sl, h => by
    unfold E.ev
    refine bind_fr (Es_fr es n sl h) fun xs h1 => ?_
    show (if (C.shs h0.length xs).length ≤ lineN then R.ok (C.tup (C.shs h0.length xs)) (fh h0 h1) else .bad) = R.fr h0 (shn h0) (if xs.length ≤ lineN then R.ok (C.tup xs) h1 else .bad)
    rw [shs_len]
    split <;> rfl
  | .lst es, n, sl, h => by
    unfold E.ev
    refine bind_fr (Es_fr es n sl h) fun xs h1 => ?_
    show (if (C.shs h0.length xs).length ≤ lineN then R.ok (C.ref (fh h0 h1).length) (fh h0 h1 ++ [C.shs h0.length xs]) else .bad) = R.fr h0 (shn h0) (if xs.length ≤ lineN then R.ok (C.ref h1.length) (h1 ++ [xs]) else .bad)
    rw [shs_len, fh_push, fh_len]
    split <;> rfl
  | .idx a i, n, sl, h => by
    unfold E.ev
    exact bind_fr (E_fr a (and2 n).1 sl h) fun x h1 => bind_fr (E_fr i (and2 n).2 sl h1) fun y h2 => item_fr h2 x y
  | .slc a lo hi, n, sl, h => by
    unfold E.ev
    exact bind_fr (E_fr a (and2 (and2 n).1).1 sl h) fun x h1 => bind_fr (O_fr lo (and2 (and2 n).1).2 sl h1) fun l h2 => bind_fr (O_fr hi (and2 n).2 sl h2) fun u h3 => slice_fr h3 x l u
  | .call f es, n, sl, h => by
    unfold E.ev
    exact bind_fr (Es_fr es n sl h) fun xs h1 => hc f xs h1
  | .callk f es ks perm, n, sl, h => by
    unfold E.ev
    refine bind_fr (Es_fr es (and2 n).1 sl h) fun xs h1 => bind_fr (Es_fr ks (and2 n).2 sl h1) fun ys h2 => ?_
    rw [gK_shs]
    exact hc f _ h2
  | .bi b es, n, sl, h => by
    unfold E.ev
    exact bind_fr (Es_fr es n sl h) fun xs h1 => bi_fr b h1 xs
  | .isi a t, n, sl, h => by
    unfold E.ev
    refine bind_fr (E_fr a n sl h) fun x h1 => ?_
    rw [isiC_fr]; rfl
  | .pop a, n, sl, h => by
    unfold E.ev
    refine bind_fr (E_fr a n sl h) fun x h1 => ?_
    cases x
    case ref k =>
      show (match (fh h0 h1)[h0.length + k]? with
        | some xs => match xs[xs.length - 1]? with
          | some c => R.ok c ((fh h0 h1).set (h0.length + k) xs.dropLast)
          | none => .bad
        | none => .bad) = R.fr h0 (shn h0) (match h1[k]? with
        | some xs => match xs[xs.length - 1]? with
          | some c => R.ok c (h1.set k xs.dropLast)
          | none => .bad
        | none => .bad)
      rw [fh_get]
      cases h1[k]? with
      | none => rfl
      | some xs =>
        show (match (shsn h0 xs)[(shsn h0 xs).length - 1]? with
          | some c => R.ok c ((fh h0 h1).set (h0.length + k) (shsn h0 xs).dropLast)
          | none => .bad) = R.fr h0 (shn h0) (match xs[xs.length - 1]? with
          | some c => R.ok c (h1.set k xs.dropLast)
          | none => .bad)
        rw [shs_len, shs_get, ← shs_droplast, fh_set]
        cases xs[xs.length - 1]? <;> rfl
    all_goals rfl
  | .comp e p it t, n, sl, h => by
    unfold E.ev
    refine bind_fr (It_fr it (and2 (and2 n).1).2 sl h) fun v h1 => ?_
    refine bind_fr (g := shsn h0) ?_ fun xs h2 => ?_
    · have ec := compF_fr (it := v) (g := fun c sl h => Pt.put call sub w cx p c sl h) (g' := fun c sl h => Pt.put call sub w (cxsh h0 cx) p c sl h) (t := fun sl h => T.ev call sub w cx t sl h) (t' := fun sl h => T.ev call sub w (cxsh h0 cx) t sl h) (e := fun sl h => E.ev call sub w cx e sl h) (e' := fun sl h => E.ev call sub w (cxsh h0 cx) e sl h)
        (fun c sl h => P_fr p (and2 (and2 (and2 n).1).1).2 c sl h) (fun sl h => T_fr t (and2 n).2 sl h) (fun sl h => E_fr e (and2 (and2 (and2 n).1).1).1 sl h) w 0 (p.wipe sl) [] h1
      unfold Pt.wipe at ec ⊢
      rw [wipe_fr]
      rw [show ([] : List C) = shsn h0 [] from rfl, ec]
      exact noerr_fr _
    · show R.ok (C.ref (fh h0 h2).length) (fh h0 h2 ++ [shsn h0 xs]) = R.ok (C.ref (h0.length + h2.length)) (fh h0 (h2 ++ [xs]))
      rw [fh_push, fh_len]
  | .excf j, n, sl, h => by
    unfold E.ev
    cases cx with
    | none => rfl
    | some p =>
      show (match (shsn h0 p.2)[j]? with
        | some c => R.ok c (fh h0 h)
        | none => .bad) = R.fr h0 (shn h0) (match p.2[j]? with
        | some c => R.ok c h
        | none => .bad)
      rw [shs_get]
      cases p.2[j]? <;> rfl
  | .excis x, n, sl, h => by
    unfold E.ev
    cases cx with
    | none => rfl
    | some p =>
      show (match sub p.1 x with
        | some b => R.ok (C.bl b) (fh h0 h)
        | none => .bad) = R.fr h0 (shn h0) (match sub p.1 x with
        | some b => R.ok (C.bl b) h
        | none => .bad)
      cases sub p.1 x <;> rfl
  | .revs a, n, sl, h => by
    unfold E.ev
    refine bind_fr (E_fr a n sl h) fun x h1 => ?_
    cases x
    case ref k =>
      show (match (fh h0 h1)[h0.length + k]? with
        | some cs => R.ok (C.ref (fh h0 h1).length) (fh h0 h1 ++ [cs.reverse])
        | none => .bad) = R.fr h0 (shn h0) (match h1[k]? with
        | some cs => R.ok (C.ref h1.length) (h1 ++ [cs.reverse])
        | none => .bad)
      rw [fh_get]
      cases h1[k]? with
      | none => rfl
      | some cs =>
        show R.ok (C.ref (fh h0 h1).length) (fh h0 h1 ++ [(shsn h0 cs).reverse]) = R.ok (C.ref (h0.length + h1.length)) (fh h0 (h1 ++ [cs.reverse]))
        rw [← shs_rev, fh_push, fh_len]
    case frz cs =>
      show R.ok (C.ref (fh h0 h1).length) (fh h0 h1 ++ [(shsn h0 cs).reverse]) = R.ok (C.ref (h0.length + h1.length)) (fh h0 (h1 ++ [cs.reverse]))
      rw [← shs_rev, fh_push, fh_len]
    all_goals rfl
theorem T_fr : ∀ (t : T), t.nr = true → ∀ (sl : Sl) (h : Hc), T.ev call sub w (cxsh h0 cx) t (slsh h0 sl) (fh h0 h) = (T.ev call sub w cx t sl h).fr h0 id
  | .yes, n, sl, h => by unfold T.ev; rfl
  | .tr a, n, sl, h => by
    unfold T.ev
    exact bind_fr (E_fr a n sl h) fun x h1 => truth_fr h1 x
  | .cmp o a b, n, sl, h => by
    unfold T.ev
    exact bind_fr (E_fr a (and2 n).1 sl h) fun x h1 => bind_fr (E_fr b (and2 n).2 sl h1) fun y h2 => bind_fr (cmpop_fr o h2 x y) fun z h3 => by cases z <;> rfl
  | .chn o o' a b c, n, sl, h => by
    unfold T.ev
    refine bind_fr (E_fr a (and2 (and2 n).1).1 sl h) fun x h1 => bind_fr (E_fr b (and2 (and2 n).1).2 sl h1) fun y h2 => bind_fr (cmpop_fr o h2 x y) fun z h3 => ?_
    cases z
    case bl k =>
      cases k
      · rfl
      · exact bind_fr (E_fr c (and2 n).2 sl h3) fun u h4 => bind_fr (cmpop_fr o' h4 y u) fun z h5 => by cases z <;> rfl
    all_goals rfl
  | .and a b, n, sl, h => by
    unfold T.ev
    refine bind_fr (T_fr a (and2 n).1 sl h) fun k h1 => ?_
    cases k
    · rfl
    · exact T_fr b (and2 n).2 sl h1
  | .or a b, n, sl, h => by
    unfold T.ev
    refine bind_fr (T_fr a (and2 n).1 sl h) fun k h1 => ?_
    cases k
    · exact T_fr b (and2 n).2 sl h1
    · rfl
  | .not a, n, sl, h => by
    unfold T.ev
    exact bind_fr (T_fr a n sl h) fun k h1 => rfl
theorem Es_fr : ∀ (es : Es), es.nr = true → ∀ (sl : Sl) (h : Hc), Es.ev call sub w (cxsh h0 cx) es (slsh h0 sl) (fh h0 h) = (Es.ev call sub w cx es sl h).fr h0 (shsn h0)
  | .nil, n, sl, h => by unfold Es.ev; rfl
  | .cons e es, n, sl, h => by
    unfold Es.ev
    exact bind_fr (E_fr e (and2 n).1 sl h) fun x h1 => bind_fr (Es_fr es (and2 n).2 sl h1) fun xs h2 => rfl
theorem O_fr : ∀ (o : Oe), o.nr = true → ∀ (sl : Sl) (h : Hc), Oe.ev call sub w (cxsh h0 cx) o (slsh h0 sl) (fh h0 h) = (Oe.ev call sub w cx o sl h).fr h0 id
  | .none, n, sl, h => by unfold Oe.ev; rfl
  | .some e, n, sl, h => by
    unfold Oe.ev
    exact bind_fr (E_fr e n sl h) fun x h1 => by cases x <;> rfl
theorem It_fr : ∀ (it : It), it.nr = true → ∀ (sl : Sl) (h : Hc), It.ev call sub w (cxsh h0 cx) it (slsh h0 sl) (fh h0 h) = (It.ev call sub w cx it sl h).fr h0 (ItV.sh h0.length)
  | .seq a, n, sl, h => by
    unfold It.ev
    exact bind_fr (E_fr a n sl h) fun x h1 => by cases x <;> rfl
  | .rng1 a, n, sl, h => by
    unfold It.ev
    refine bind_fr (E_fr a n sl h) fun x h1 => ?_
    cases x
    case int j =>
      show (if -1000000000 < j ∧ j < 1000000000 then R.ok (ItV.rng 0 j.toNat) (fh h0 h1) else .bad) = R.fr h0 (ItV.sh h0.length) (if -1000000000 < j ∧ j < 1000000000 then R.ok (ItV.rng 0 j.toNat) h1 else .bad)
      split <;> rfl
    all_goals rfl
  | .rng2 a b, n, sl, h => by
    unfold It.ev
    refine bind_fr (E_fr a (and2 n).1 sl h) fun x h1 => bind_fr (E_fr b (and2 n).2 sl h1) fun y h2 => ?_
    cases x <;> cases y
    case int.int i j =>
      show (if -1000000 < i ∧ i < 1000000 ∧ -1000000 < j ∧ j < 1000000 then R.ok (ItV.rng i (j - i).toNat) (fh h0 h2) else .bad) = R.fr h0 (ItV.sh h0.length) (if -1000000 < i ∧ i < 1000000 ∧ -1000000 < j ∧ j < 1000000 then R.ok (ItV.rng i (j - i).toNat) h2 else .bad)
      split <;> rfl
    all_goals rfl
  | .rng3 a b c, n, sl, h => by unfold It.ev; rfl
  | .enum a, n, sl, h => by
    unfold It.ev
    exact bind_fr (E_fr a n sl h) fun x h1 => by cases x <;> rfl
  | .zip a b, n, sl, h => by unfold It.ev; rfl
  | .rev a, n, sl, h => by
    unfold It.ev
    refine bind_fr (E_fr a n sl h) fun x h1 => ?_
    cases x
    case ref k =>
      show (match (fh h0 h1)[h0.length + k]? with
        | some cs => R.ok (ItV.revl (h0.length + k) cs.length) (fh h0 h1)
        | none => .bad) = R.fr h0 (ItV.sh h0.length) (match h1[k]? with
        | some cs => R.ok (ItV.revl k cs.length) h1
        | none => .bad)
      rw [fh_get]
      cases h1[k]? with
      | none => rfl
      | some cs => show R.ok (ItV.revl (h0.length + k) (shsn h0 cs).length) (fh h0 h1) = _; rw [shs_len]; rfl
    all_goals rfl
  | .revr a, n, sl, h => by unfold It.ev; rfl
theorem P_fr : ∀ (p : Pt), p.nr = true → ∀ (c : C) (sl : Sl) (h : Hc), Pt.put call sub w (cxsh h0 cx) p (shn h0 c) (slsh h0 sl) (fh h0 h) = (Pt.put call sub w cx p c sl h).fr h0 (slsh h0)
  | .v i, n, c, sl, h => by
    unfold Pt.put
    rw [sl_set]; rfl
  | .sub o i, n, c, sl, h => by
    unfold Pt.put
    refine bind_fr (g := shn h0) ?_ fun x h1 => bind_fr (g := shn h0) ?_ fun y h2 => bind_fr (setitem_fr h2 x y c) fun _ h3 => rfl
    · rw [E_fr o (and2 n).1 sl h, noerr_fr]
    · rw [E_fr i (and2 n).2 sl h1, noerr_fr]
  | .tup ps, n, c, sl, h => by
    unfold Pt.put
    cases c
    case tup cs =>
      show (if (shsn h0 cs).length = ps.len then Pts.put call sub w (cxsh h0 cx) ps (shsn h0 cs) (slsh h0 sl) (fh h0 h) else .bad) = R.fr h0 (slsh h0) (if cs.length = ps.len then Pts.put call sub w cx ps cs sl h else .bad)
      rw [shs_len]
      by_cases l : cs.length = ps.len
      · rw [if_pos l, if_pos l]
        exact Ps_fr ps n cs sl h
      · rw [if_neg l, if_neg l]; rfl
    all_goals rfl
theorem Ps_fr : ∀ (ps : Pts), ps.nr = true → ∀ (cs : List C) (sl : Sl) (h : Hc), Pts.put call sub w (cxsh h0 cx) ps (shsn h0 cs) (slsh h0 sl) (fh h0 h) = (Pts.put call sub w cx ps cs sl h).fr h0 (slsh h0)
  | .nil, n, cs, sl, h => by
    unfold Pts.put
    cases cs <;> rfl
  | .cons p ps, n, cs, sl, h => by
    unfold Pts.put
    cases cs with
    | nil => rfl
    | cons c cs => exact bind_fr (P_fr p (and2 n).1 c sl h) fun sl1 h1 => Ps_fr ps (and2 n).2 cs sl1 h1
end
end
def RS'.fr (h0 : Hc) : RS' → RS'
  | .nx sl h => .nx (slsh h0 sl) (fh h0 h)
  | .ret c h => .ret (shn h0 c) (fh h0 h)
  | .bk sl h => .bk (slsh h0 sl) (fh h0 h)
  | .ct sl h => .ct (slsh h0 sl) (fh h0 h)
  | .err k xs sl h => .err k (shsn h0 xs) (slsh h0 sl) (fh h0 h)
  | .bad => .bad
theorem th_fr {α α' : Type} {g : α → α'} {r : R α} {r' : R α'} {sl : Sl} {f : α → Hc → RS'} {f' : α' → Hc → RS'} (e : r' = r.fr h0 g) (ef : ∀ a h, f' (g a) (fh h0 h) = (f a h).fr h0) : r'.th (slsh h0 sl) f' = (r.th sl f).fr h0 := by
  subst e
  cases r with
  | ok a h => exact ef a h
  | err k xs h => rfl
  | bad => rfl
theorem thn_fr {r r' : RS'} {f f' : Sl → Hc → RS'} (e : r' = r.fr h0) (ef : ∀ sl h, f' (slsh h0 sl) (fh h0 h) = (f sl h).fr h0) : r'.th f' = (r.th f).fr h0 := by
  subst e
  cases r with
  | nx sl h => exact ef sl h
  | _ => rfl
theorem whileF_fr {t t' : Sl → Hc → R Bool} {b b' : Sl → Hc → RS'} (ht : ∀ sl h, t' (slsh h0 sl) (fh h0 h) = (t sl h).fr h0 id) (hb : ∀ sl h, b' (slsh h0 sl) (fh h0 h) = (b sl h).fr h0) : ∀ (n : Nat) (sl : Sl) (h : Hc), whileF t' b' n (slsh h0 sl) (fh h0 h) = (whileF t b n sl h).fr h0
  | 0, _, _ => rfl
  | n + 1, sl, h => by
    have ih := whileF_fr ht hb n
    unfold whileF
    refine th_fr (ht sl h) fun k h1 => ?_
    cases k
    · rfl
    · show (match b' (slsh h0 sl) (fh h0 h1) with
        | .nx sl2 h2 => whileF t' b' n sl2 h2
        | .ct sl2 h2 => whileF t' b' n sl2 h2
        | .bk sl2 h2 => .nx sl2 h2
        | r => r) = RS'.fr h0 (match b sl h1 with
        | .nx sl2 h2 => whileF t b n sl2 h2
        | .ct sl2 h2 => whileF t b n sl2 h2
        | .bk sl2 h2 => .nx sl2 h2
        | r => r)
      rw [hb]
      cases b sl h1 with
      | nx sl2 h2 => exact ih sl2 h2
      | ct sl2 h2 => exact ih sl2 h2
      | _ => rfl
theorem forF_fr {it : ItV} {g g' : C → Sl → Hc → R Sl} {b b' : Sl → Hc → RS'} (hg : ∀ c sl h, g' (shn h0 c) (slsh h0 sl) (fh h0 h) = (g c sl h).fr h0 (slsh h0)) (hb : ∀ sl h, b' (slsh h0 sl) (fh h0 h) = (b sl h).fr h0) : ∀ (n i : Nat) (sl : Sl) (h : Hc), forF (it.sh h0.length) g' b' n i (slsh h0 sl) (fh h0 h) = (forF it g b n i sl h).fr h0
  | 0, _, _, _ => rfl
  | n + 1, i, sl, h => by
    have ih := forF_fr (it := it) hg hb n
    unfold forF
    rw [at_fr]
    cases it.at_ i h with
    | none => rfl
    | some o =>
      cases o with
      | none => rfl
      | some c =>
        refine th_fr (r := (g c sl h).noerr) (g := slsh h0) ?_ fun sl1 h1 => ?_
        · show (g' (shn h0 c) (slsh h0 sl) (fh h0 h)).noerr = _
          rw [hg, noerr_fr]
        · show (match b' (slsh h0 sl1) (fh h0 h1) with
            | .nx sl2 h2 => forF (it.sh h0.length) g' b' n (i + 1) sl2 h2
            | .ct sl2 h2 => forF (it.sh h0.length) g' b' n (i + 1) sl2 h2
            | .bk sl2 h2 => .nx sl2 h2
            | r => r) = RS'.fr h0 (match b sl1 h1 with
            | .nx sl2 h2 => forF it g b n (i + 1) sl2 h2
            | .ct sl2 h2 => forF it g b n (i + 1) sl2 h2
            | .bk sl2 h2 => .nx sl2 h2
            | r => r)
          rw [hb]
          cases b sl1 h1 with
          | nx sl2 h2 => exact ih (i + 1) sl2 h2
          | ct sl2 h2 => exact ih (i + 1) sl2 h2
          | _ => rfl
section
variable {call : Nat → List C → Hc → R C} {sub : Nat → Str → Option Bool} {w : Nat} (hc : ∀ f xs h, call f (shsn h0 xs) (fh h0 h) = (call f xs h).fr h0 (shn h0))
include hc
mutual
theorem S_fr : ∀ (s : S), s.nr = true → ∀ (cx : Option (Nat × List C)) (sl : Sl) (h : Hc), S.ev call sub w s (cxsh h0 cx) (slsh h0 sl) (fh h0 h) = (S.ev call sub w s cx sl h).fr h0
  | .asg p e, n, cx, sl, h => by
    unfold S.ev
    refine th_fr (E_fr hc e (and2 n).2 sl h) fun c h1 => th_fr (g := slsh h0) ?_ fun sl1 h2 => rfl
    rw [P_fr hc p (and2 n).1 c sl h1, noerr_fr]
  | .setc i e, n, cx, sl, h => by
    unfold S.ev
    refine th_fr (E_fr hc e n sl h) fun c h1 => ?_
    rw [sl_set]; rfl
  | .par i j a b, n, cx, sl, h => by
    unfold S.ev
    refine th_fr (E_fr hc a (and2 n).1 sl h) fun x h1 => th_fr (E_fr hc b (and2 n).2 sl h1) fun y h2 => ?_
    rw [sl_set, sl_set]; rfl
  | .aug i o e, n, cx, sl, h => by
    unfold S.ev
    rw [sl_get]
    cases sl[i]? with
    | none => rfl
    | some x =>
      cases x with
      | none => rfl
      | some x =>
        refine th_fr (E_fr hc e n sl h) fun y h1 => ?_
        cases x <;> cases y
        case int.int a b =>
          refine th_fr (augC_fr o h1 a b) fun z h2 => ?_
          rw [sl_set]; rfl
        all_goals rfl
  | .augi o i op e, n, cx, sl, h => by
    unfold S.ev
    refine th_fr (E_fr hc o (and2 (and2 n).1).1 sl h) fun x h1 => th_fr (E_fr hc i (and2 (and2 n).1).2 sl h1) fun y h2 => ?_
    cases x
    case ref k =>
      refine th_fr (item_fr h2 (.ref k) y) fun old h3 => th_fr (E_fr hc e (and2 n).2 sl h3) fun v h4 => ?_
      cases old <;> cases v
      case int.int a b =>
        refine th_fr (augC_fr op h4 a b) fun new h5 => th_fr (setitem_fr h5 (.ref k) y new) fun _ h6 => rfl
      all_goals rfl
    all_goals rfl
  | .ifs t a b, n, cx, sl, h => by
    unfold S.ev
    refine th_fr (T_fr hc t (and2 (and2 n).1).1 sl h) fun k h1 => ?_
    cases k
    · exact Ss_fr b (and2 n).2 cx sl h1
    · exact Ss_fr a (and2 (and2 n).1).2 cx sl h1
  | .whl t b, n, cx, sl, h => by
    unfold S.ev
    exact whileF_fr (fun sl h => T_fr hc t (and2 n).1 sl h) (fun sl h => Ss_fr b (and2 n).2 cx sl h) w sl h
  | .for_ p it b, n, cx, sl, h => by
    unfold S.ev
    exact th_fr (It_fr hc it (and2 (and2 n).1).2 sl h) fun v h1 => forF_fr (fun c sl h => P_fr hc p (and2 (and2 n).1).1 c sl h) (fun sl h => Ss_fr b (and2 n).2 cx sl h) w 0 sl h1
  | .ret e, n, cx, sl, h => by
    unfold S.ev
    exact th_fr (E_fr hc e n sl h) fun c h1 => rfl
  | .retn, n, cx, sl, h => by unfold S.ev; rfl
  | .expr e, n, cx, sl, h => by
    unfold S.ev
    exact th_fr (E_fr hc e n sl h) fun c h1 => rfl
  | .app o e, n, cx, sl, h => by
    unfold S.ev
    refine th_fr (E_fr hc o (and2 n).1 sl h) fun x h1 => ?_
    cases x
    case ref k =>
      refine th_fr (E_fr hc e (and2 n).2 sl h1) fun y h2 => ?_
      show (match (fh h0 h2)[h0.length + k]? with
        | some xs => if xs.length < lineN then RS'.nx (slsh h0 sl) ((fh h0 h2).set (h0.length + k) (xs ++ [shn h0 y])) else .bad
        | none => .bad) = RS'.fr h0 (match h2[k]? with
        | some xs => if xs.length < lineN then RS'.nx sl (h2.set k (xs ++ [y])) else .bad
        | none => .bad)
      rw [fh_get]
      cases h2[k]? with
      | none => rfl
      | some xs =>
        show (if (shsn h0 xs).length < lineN then RS'.nx (slsh h0 sl) ((fh h0 h2).set (h0.length + k) (shsn h0 xs ++ [shn h0 y])) else .bad) = RS'.fr h0 (if xs.length < lineN then RS'.nx sl (h2.set k (xs ++ [y])) else .bad)
        rw [shs_len, show shsn h0 xs ++ [shn h0 y] = shsn h0 (xs ++ [y]) from (shs_app h0.length xs [y]).symm, fh_set]
        split <;> rfl
    all_goals rfl
  | .raise k es, n, cx, sl, h => by
    unfold S.ev
    exact th_fr (Es_fr hc es n sl h) fun xs h1 => rfl
  | .brk, n, cx, sl, h => by unfold S.ev; rfl
  | .cnt, n, cx, sl, h => by unfold S.ev; rfl
  | .pass, n, cx, sl, h => by unfold S.ev; rfl
  | .try_ b hs, n, cx, sl, h => by
    unfold S.ev
    cases cx with
    | some p => rfl
    | none =>
      show (match Ss.ev call sub w b none (slsh h0 sl) (fh h0 h) with
        | .err k xs sl1 h1 => Hs.ev call sub w hs k xs sl1 h1
        | r => r) = RS'.fr h0 (match Ss.ev call sub w b none sl h with
        | .err k xs sl1 h1 => Hs.ev call sub w hs k xs sl1 h1
        | r => r)
      rw [show Ss.ev call sub w b none (slsh h0 sl) (fh h0 h) = _ from Ss_fr b (and2 n).1 none sl h]
      cases Ss.ev call sub w b none sl h with
      | err k xs sl1 h1 => exact Hs_fr hs (and2 n).2 k xs sl1 h1
      | _ => rfl
theorem Ss_fr : ∀ (ss : Ss), ss.nr = true → ∀ (cx : Option (Nat × List C)) (sl : Sl) (h : Hc), Ss.ev call sub w ss (cxsh h0 cx) (slsh h0 sl) (fh h0 h) = (Ss.ev call sub w ss cx sl h).fr h0
  | .nil, n, cx, sl, h => by unfold Ss.ev; rfl
  | .cons s ss, n, cx, sl, h => by
    unfold Ss.ev
    exact thn_fr (S_fr s (and2 n).1 cx sl h) fun sl1 h1 => Ss_fr ss (and2 n).2 cx sl1 h1
theorem Hs_fr : ∀ (hs : Hs), hs.nr = true → ∀ (k : Nat) (xs : List C) (sl : Sl) (h : Hc), Hs.ev call sub w hs k (shsn h0 xs) (slsh h0 sl) (fh h0 h) = (Hs.ev call sub w hs k xs sl h).fr h0
  | .nil, n, k, xs, sl, h => by unfold Hs.ev; rfl
  | .cons ks i b hs, n, k, xs, sl, h => by
    unfold Hs.ev
    by_cases z : ks.contains k = true
    · rw [if_pos z, if_pos z, sl_setn]
      have e := Ss_fr b (and2 n).1 (some (k, xs)) (sl.set i none) h
      show (match Ss.ev call sub w b (cxsh h0 (some (k, xs))) (slsh h0 (sl.set i none)) (fh h0 h) with
        | .nx sl2 h2 => RS'.nx (sl2.set i none) h2
        | .ret c h2 => .ret c h2
        | .bk sl2 h2 => .bk (sl2.set i none) h2
        | .ct sl2 h2 => .ct (sl2.set i none) h2
        | _ => .bad) = _
      rw [e]
      cases Ss.ev call sub w b (some (k, xs)) (sl.set i none) h with
      | nx sl2 h2 => show RS'.nx ((slsh h0 sl2).set i none) _ = _; rw [sl_setn]; rfl
      | bk sl2 h2 => show RS'.bk ((slsh h0 sl2).set i none) _ = _; rw [sl_setn]; rfl
      | ct sl2 h2 => show RS'.ct ((slsh h0 sl2).set i none) _ = _; rw [sl_setn]; rfl
      | _ => rfl
    · rw [if_neg z, if_neg z]
      exact Hs_fr hs (and2 n).2 k xs sl h
end
end
theorem all_fr (cl : ClH h0) (h : Hc) (k : Nat) : ((fh h0 h).take (h0.length + k)).all (C.unders (h0.length + k)) = (h.take k).all (C.unders k) := by
  rw [fh_take]
  unfold fh
  rw [List.all_append, List.all_map]
  have a1 : h0.all (C.unders (h0.length + k)) = true := List.all_eq_true.mpr fun l hl => unders_le (by omega) l (List.all_eq_true.mp cl l hl)
  rw [a1, Bool.true_and]
  refine congrArg (fun f => List.all (h.take k) f) (funext fun l => ?_)
  exact unders_shs h0.length k l
theorem tidy_fr (cl : ClH h0) (n : Nat) (c : C) (h : Hc) : tidy (h0.length + n) (shn h0 c) (fh h0 h) = (tidy n c h).fr h0 (shn h0) := by
  unfold tidy
  rw [all_fr cl, under_sh, fh_take]
  split <;> rfl
theorem tidyX_fr (cl : ClH h0) (n k : Nat) (xs : List C) (h : Hc) : tidyX (h0.length + n) k (shsn h0 xs) (fh h0 h) = (tidyX n k xs h).fr h0 (shn h0) := by
  unfold tidyX
  rw [all_fr cl, unders_shs, fh_take]
  split <;> rfl
/-- the frame -/
theorem run_fr {fns : Nat → Option Fn} {sub : Nat → Str → Option Bool} {w : Nat} (hn : ∀ f fn, fns f = some fn → fn.body.nr = true) (cl : ClH h0) : ∀ (d f : Nat) (xs : List C) (h : Hc), run fns sub w d f (shsn h0 xs) (fh h0 h) = (run fns sub w d f xs h).fr h0 (shn h0)
  | 0, _, _, _ => rfl
  | d + 1, f, xs, h => by
    unfold run
    cases e : fns f with
    | none => rfl
    | some fn =>
      show (if (shsn h0 xs).length = fn.np ∧ fn.np ≤ fn.n then _ else R.bad) = R.fr h0 (shn h0) (if xs.length = fn.np ∧ fn.np ≤ fn.n then _ else R.bad)
      rw [shs_len]
      by_cases z : xs.length = fn.np ∧ fn.np ≤ fn.n
      · rw [if_pos z, if_pos z]
        have e1 : (shsn h0 xs).map some ++ List.replicate (fn.n - fn.np) none = slsh h0 (xs.map some ++ List.replicate (fn.n - fn.np) none) := by
          unfold slsh
          rw [List.map_append, List.map_replicate, show shsn h0 xs = xs.map (C.sh h0.length) from shs_map _ _, List.map_map, List.map_map]
          rfl
        rw [e1, show Ss.ev (run fns sub w d) sub w fn.body none (slsh h0 (xs.map some ++ List.replicate (fn.n - fn.np) none)) (fh h0 h) = _ from Ss_fr (run_fr hn cl d) fn.body (hn f fn e) none _ h]
        cases Ss.ev (run fns sub w d) sub w fn.body none (xs.map some ++ List.replicate (fn.n - fn.np) none) h with
        | nx sl2 h2 => show tidy (fh h0 h).length (shn h0 .non) (fh h0 h2) = _; rw [fh_len, tidy_fr cl]
        | ret c h2 => show tidy (fh h0 h).length (shn h0 c) (fh h0 h2) = _; rw [fh_len, tidy_fr cl]
        | err k ys sl2 h2 => show tidyX (fh h0 h).length k (shsn h0 ys) (fh h0 h2) = _; rw [fh_len, tidyX_fr cl]
        | _ => rfl
      · rw [if_neg z, if_neg z]; rfl
/-- a call that holds on to no list: what it does with nothing around it does beside any closed store -/
theorem run_pure {fns : Nat → Option Fn} {sub : Nat → Str → Option Bool} {w d f : Nat} {xs : List C} {c : C} (hn : ∀ f fn, fns f = some fn → fn.body.nr = true) (e : run fns sub w d f xs [] = .ok c []) (nx : C.nrs xs = true) (nc : c.nr = true) (h : Hc) (cl : ClH h) : run fns sub w d f xs h = .ok c h := by
  have := run_fr (sub := sub) (w := w) hn cl d f xs []
  rw [e, show shsn h xs = xs from nrs_shs _ xs nx, fh_nil] at this
  rw [this]
  show R.ok (C.sh h.length c) (fh h []) = _
  rw [nr_sh _ c nc, fh_nil]
theorem run_pureX {fns : Nat → Option Fn} {sub : Nat → Str → Option Bool} {w d f k : Nat} {xs ys : List C} (hn : ∀ f fn, fns f = some fn → fn.body.nr = true) (e : run fns sub w d f xs [] = .err k ys []) (nx : C.nrs xs = true) (nc : C.nrs ys = true) (h : Hc) (cl : ClH h) : run fns sub w d f xs h = .err k ys h := by
  have := run_fr (sub := sub) (w := w) hn cl d f xs []
  rw [e, show shsn h xs = xs from nrs_shs _ xs nx, fh_nil] at this
  rw [this]
  show R.err k (C.shs h.length ys) (fh h []) = _
  rw [nrs_shs _ ys nc, fh_nil]
end Sh
set_option linter.all false
set_option autoImplicit false
set_option maxRecDepth 100000
set_option maxHeartbeats 4000000
/-! Sh, part T: reckoning with rows of whole numbers, loops, comprehensions, repr. -/
namespace Sh
open PySem
def iZ (xs : List Int) : List C := xs.map C.int
def tZ (xs : List Int) : C := .tup (iZ xs)
/-- the number at a place, 0 beyond -/
def gI (xs : List Int) (k : Nat) : Int := xs.getD k 0
def gC (cs : List C) (k : Nat) : C := cs.getD k .non
theorem gI_of {xs : List Int} {k : Nat} (h : k < xs.length) : xs[k]? = some (gI xs k) := by simp [gI, List.getD, h]
theorem gC_of {xs : List C} {k : Nat} (h : k < xs.length) : xs[k]? = some (gC xs k) := by simp [gC, List.getD, h]
theorem iZ_len (xs : List Int) : (iZ xs).length = xs.length := by simp [iZ]
theorem iZ_get (xs : List Int) (i : Nat) : (iZ xs)[i]? = (xs[i]?).map C.int := by simp [iZ]
theorem iZ_app (xs ys : List Int) : iZ (xs ++ ys) = iZ xs ++ iZ ys := by simp [iZ]
theorem iZ_set (xs : List Int) (i : Nat) (x : Int) : (iZ xs).set i (.int x) = iZ (xs.set i x) := by simp [iZ, List.map_set]
theorem iZ_take (xs : List Int) (i : Nat) : (iZ xs).take i = iZ (xs.take i) := by simp [iZ, List.map_take]
theorem iZ_drop (xs : List Int) (i : Nat) : (iZ xs).drop i = iZ (xs.drop i) := by simp [iZ, List.map_drop]
theorem iZ_rev (xs : List Int) : (iZ xs).reverse = iZ xs.reverse := by simp [iZ, List.map_reverse]
theorem iZ_dl (xs : List Int) : (iZ xs).dropLast = iZ xs.dropLast := by simp [iZ, List.map_dropLast]
theorem iZ_emp (xs : List Int) : (iZ xs).isEmpty = xs.isEmpty := by cases xs <;> rfl
theorem iZ_nil (xs : List Int) : iZ xs = [] ↔ xs = [] := by cases xs <;> simp [iZ]
theorem iZ_cons (x : Int) (xs : List Int) : iZ (x :: xs) = .int x :: iZ xs := rfl
theorem iZ_nr : ∀ xs : List Int, C.nrs (iZ xs) = true
  | [] => rfl
  | _ :: xs => by show (true && C.nrs (iZ xs)) = true; rw [iZ_nr xs]; rfl
theorem iZ_unders (n : Nat) : ∀ xs : List Int, C.unders n (iZ xs) = true
  | [] => rfl
  | _ :: xs => by show (true && C.unders n (iZ xs)) = true; rw [iZ_unders n xs]; rfl
theorem iZ_shs (n : Nat) (xs : List Int) : C.shs n (iZ xs) = iZ xs := nrs_shs n _ (iZ_nr xs)
theorem tZ_nr (xs : List Int) : (tZ xs).nr = true := iZ_nr xs
theorem iZ_iZ : ∀ xs : List Int, intsC (iZ xs) = some xs
  | [] => rfl
  | x :: xs => by show (intsC (iZ xs)).map (x :: ·) = _; rw [iZ_iZ xs]; rfl
/-! ### closed stores -/
theorem cl_nil : ClH [] := rfl
theorem tidy_cl {h : Hc} (cl : ClH h) (c : C) (x : Hc) (hc : c.under h.length = true) : tidy h.length c (h ++ x) = .ok c h := by
  unfold tidy
  rw [List.take_left, show h.all (C.unders h.length) = true from cl, hc]
  rfl
theorem tidyX_cl {h : Hc} (cl : ClH h) (k : Nat) (xs : List C) (x : Hc) (hc : C.unders h.length xs = true) : tidyX h.length k xs (h ++ x) = .err k xs h := by
  unfold tidyX
  rw [List.take_left, show h.all (C.unders h.length) = true from cl, hc]
  rfl
theorem cl_push {h : Hc} (cl : ClH h) {xs : List C} (hx : C.unders (h.length + 1) xs = true) : ClH (h ++ [xs]) := by
  unfold ClH
  rw [List.length_append, List.all_append]
  show (h.all (C.unders (h.length + 1)) && [xs].all (C.unders (h.length + 1))) = true
  have a1 : h.all (C.unders (h.length + 1)) = true := List.all_eq_true.mpr fun l hl => unders_le (by omega) l (List.all_eq_true.mp cl l hl)
  rw [a1]
  simp [hx]
theorem cl_set {h : Hc} (cl : ClH h) {n : Nat} {xs : List C} (hx : C.unders h.length xs = true) : ClH (h.set n xs) := by
  unfold ClH
  rw [List.length_set]
  refine List.all_eq_true.mpr fun l hl => ?_
  rcases List.mem_or_eq_of_mem_set hl with z | rfl
  · exact List.all_eq_true.mp cl l z
  · exact hx
/-! ### items -/
theorem ix_nat (n i : Nat) : ixC n (i : Int) = if i < n then some i else none := by
  unfold ixC
  rw [if_pos (by omega)]
  by_cases h : i < n
  · rw [if_pos (by omega), if_pos h]; simp
  · rw [if_neg (by omega), if_neg h]
theorem ix_last (n : Nat) (h : 0 < n) : ixC n (-1) = some (n - 1) := by
  unfold ixC
  rw [if_neg (by omega), if_pos (by omega)]
  congr 1
  omega
theorem item_of {h : Hc} {x : C} {xs : List C} {i : Int} {j : Nat} {c : C} (e : seqOf h x = some xs) (e1 : ixC xs.length i = some j) (e2 : xs[j]? = some c) : item x (.int i) h = .ok c h := by
  show (match seqOf h x with
    | some xs => match (ixC xs.length i).bind fun j => xs[j]? with
      | some c => R.ok c h
      | none => .bad
    | none => .bad) = _
  rw [e]
  show (match (ixC xs.length i).bind fun j => xs[j]? with
      | some c => R.ok c h
      | none => .bad) = _
  rw [e1]
  show (match xs[j]? with
      | some c => R.ok c h
      | none => .bad) = _
  rw [e2]
theorem item_iZ {h : Hc} {x : C} {xs : List Int} (i : Nat) (e : seqOf h x = some (iZ xs)) (hi : i < xs.length) : item x (.int (i : Int)) h = .ok (.int (gI xs i)) h := by
  refine item_of e (j := i) (by rw [ix_nat, iZ_len, if_pos hi]) ?_
  rw [iZ_get, gI_of hi]; rfl
theorem item_iZI {h : Hc} {x : C} {xs : List Int} {j : Int} (i : Nat) (e : seqOf h x = some (iZ xs)) (hj : j = (i : Int)) (hi : i < xs.length) : item x (.int j) h = .ok (.int (gI xs i)) h := by
  subst hj
  exact item_iZ i e hi
theorem item_last {h : Hc} {x : C} {xs : List Int} (e : seqOf h x = some (iZ xs)) (hi : 0 < xs.length) : item x (.int (-1)) h = .ok (.int (gI xs (xs.length - 1))) h := by
  refine item_of e (j := xs.length - 1) (by rw [iZ_len, ix_last _ hi]) ?_
  rw [iZ_get, gI_of (by omega)]; rfl
theorem setitem_iZ {h : Hc} {n i : Nat} {xs : List Int} {v : Int} (e : h[n]? = some (iZ xs)) (hi : i < xs.length) : setitem (.ref n) (.int (i : Int)) (.int v) h = .ok () (h.set n (iZ (xs.set i v))) := by
  show (match h[n]? with
    | some xs => match ixC xs.length (i : Int) with
      | some j => R.ok () (h.set n (xs.set j (.int v)))
      | none => .bad
    | none => .bad) = _
  rw [e]
  show (match ixC (iZ xs).length (i : Int) with
      | some j => R.ok () (h.set n ((iZ xs).set j (.int v)))
      | none => .bad) = _
  rw [ix_nat, iZ_len, if_pos hi]
  show R.ok () (h.set n ((iZ xs).set i (.int v))) = _
  rw [iZ_set]
theorem seq_ref {h : Hc} {n : Nat} {xs : List C} (e : h[n]? = some xs) : seqOf h (.ref n) = some xs := e
theorem seq_tZ (h : Hc) (xs : List Int) : seqOf h (tZ xs) = some (iZ xs) := rfl
theorem len_of {h : Hc} {x : C} {xs : List C} (e : seqOf h x = some xs) : bi .len [x] h = .ok (.int xs.length) h := by
  cases x
  case tup ys => cases e; rfl
  case frz ys => cases e; rfl
  case ref n =>
    show (match seqOf h (.ref n) with
        | some ys => R.ok (C.int ys.length) h
        | none => .bad) = _
    rw [e]
  all_goals cases e
theorem len_tZ (h : Hc) (xs : List Int) : bi .len [tZ xs] h = .ok (.int xs.length) h := by rw [len_of (seq_tZ h xs), iZ_len]
theorem len_refI {h : Hc} {n : Nat} {xs : List Int} (e : h[n]? = some (iZ xs)) : bi .len [.ref n] h = .ok (.int xs.length) h := by rw [len_of (seq_ref e), iZ_len]
theorem cut_to (xs : List C) (k : Nat) (hk : k ≤ xs.length) : cutC xs none (some (k : Int)) = xs.take k := by
  unfold cutC sIxC
  dsimp only
  rw [if_neg (by omega)]
  simp [Nat.min_eq_left hk]
theorem slice_ref {h : Hc} {n : Nat} {xs : List C} (e : h[n]? = some xs) (lo hi : Option Int) : slice (.ref n) lo hi h = .ok (.ref h.length) (h ++ [cutC xs lo hi]) := by
  show (match h[n]? with
    | some xs => R.ok (C.ref h.length) (h ++ [cutC xs lo hi])
    | none => .bad) = _
  rw [e]
theorem tuple_ref {h : Hc} {n : Nat} {xs : List C} (e : h[n]? = some xs) : bi .tuple [.ref n] h = .ok (.tup xs) h := by
  show (match h[n]? with
      | some cs => R.ok (C.tup cs) h
      | none => .bad) = _
  rw [e]
theorem list_of {h : Hc} {x : C} {xs : List C} (e : seqOf h x = some xs) : bi .list [x] h = .ok (.ref h.length) (h ++ [xs]) := by
  show (match seqOf h x with
      | some cs => R.ok (C.ref h.length) (h ++ [cs])
      | none => .bad) = _
  rw [e]
theorem last_get (h : Hc) (xs : List C) : (h ++ [xs])[h.length]? = some xs := by simp
/-! ### loops -/
theorem forF_gen {it : ItV} {n : Nat} {el : Nat → C} {g : C → Sl → Hc → R Sl} {b : Sl → Hc → RS'} (inv : Nat → Sl → Hc → Prop) (hat : ∀ i sl h, inv i sl h → i ≤ n → it.at_ i h = if i < n then some (some (el i)) else some none)
    (step : ∀ i sl h, inv i sl h → i < n → ∃ sl1 h1 sl2 h2, g (el i) sl h = .ok sl1 h1 ∧ (b sl1 h1 = .nx sl2 h2 ∨ b sl1 h1 = .ct sl2 h2) ∧ inv (i + 1) sl2 h2) :
    ∀ (f i : Nat) (sl : Sl) (h : Hc), inv i sl h → i ≤ n → n < i + f → ∃ sl' h', forF it g b f i sl h = .nx sl' h' ∧ inv n sl' h'
  | 0, i, sl, h, _, h1, h2 => by omega
  | f + 1, i, sl, h, hi, h1, h2 => by
    have e := hat i sl h hi h1
    by_cases z : i < n
    · obtain ⟨sl1, h1', sl2, h2', e1, e2, e3⟩ := step i sl h hi z
      obtain ⟨sl', h', e4, e5⟩ := forF_gen inv hat step f (i + 1) sl2 h2' e3 z (by omega)
      refine ⟨sl', h', ?_, e5⟩
      unfold forF
      rw [e, if_pos z]
      show (R.noerr (g (el i) sl h)).th sl _ = _
      rw [e1]
      show (match b sl1 h1' with
        | .nx sl2 h2 => forF it g b f (i + 1) sl2 h2
        | .ct sl2 h2 => forF it g b f (i + 1) sl2 h2
        | .bk sl2 h2 => .nx sl2 h2
        | r => r) = _
      rcases e2 with e2 | e2 <;> rw [e2] <;> exact e4
    · have : i = n := by omega
      subst this
      refine ⟨sl, h, ?_, hi⟩
      unfold forF
      rw [e, if_neg z]
/-- a loop that may return from within -/
theorem forF_ret {it : ItV} {n : Nat} {el : Nat → C} {g : C → Sl → Hc → R Sl} {b : Sl → Hc → RS'} (inv : Nat → Sl → Hc → Prop) (rt : Nat → C → Hc → Prop) (hat : ∀ i sl h, inv i sl h → i ≤ n → it.at_ i h = if i < n then some (some (el i)) else some none)
    (step : ∀ i sl h, inv i sl h → i < n → ∃ sl1 h1, g (el i) sl h = .ok sl1 h1 ∧ ((∃ sl2 h2, (b sl1 h1 = .nx sl2 h2 ∨ b sl1 h1 = .ct sl2 h2) ∧ inv (i + 1) sl2 h2) ∨ ∃ c h2, b sl1 h1 = .ret c h2 ∧ rt i c h2)) :
    ∀ (f i : Nat) (sl : Sl) (h : Hc), inv i sl h → i ≤ n → n < i + f → (∃ sl' h', forF it g b f i sl h = .nx sl' h' ∧ inv n sl' h') ∨ ∃ j c h', i ≤ j ∧ j < n ∧ forF it g b f i sl h = .ret c h' ∧ rt j c h'
  | 0, i, sl, h, _, h1, h2 => by omega
  | f + 1, i, sl, h, hi, h1, h2 => by
    have e := hat i sl h hi h1
    by_cases z : i < n
    · obtain ⟨sl1, h1', e1, e2⟩ := step i sl h hi z
      have un : forF it g b (f + 1) i sl h = (match b sl1 h1' with
        | .nx sl2 h2 => forF it g b f (i + 1) sl2 h2
        | .ct sl2 h2 => forF it g b f (i + 1) sl2 h2
        | .bk sl2 h2 => .nx sl2 h2
        | r => r) := by
        rw [forF, e, if_pos z]
        show (R.noerr (g (el i) sl h)).th sl _ = _
        rw [e1]
        rfl
      rcases e2 with ⟨sl2, h2', e2, e3⟩ | ⟨c, h2', e2, e3⟩
      · have un2 : forF it g b (f + 1) i sl h = forF it g b f (i + 1) sl2 h2' := by
          rw [un]
          rcases e2 with e2 | e2 <;> rw [e2]
        rcases forF_ret inv rt hat step f (i + 1) sl2 h2' e3 z (by omega) with ⟨sl', h', e4, e5⟩ | ⟨j, c, h', e4, e5, e6, e7⟩
        · exact .inl ⟨sl', h', by rw [un2]; exact e4, e5⟩
        · exact .inr ⟨j, c, h', by omega, e5, by rw [un2]; exact e6, e7⟩
      · exact .inr ⟨i, c, h2', Nat.le_refl _, z, by rw [un, e2], e3⟩
    · have : i = n := by omega
      subst this
      refine .inl ⟨sl, h, ?_, hi⟩
      unfold forF
      rw [e, if_neg z]
theorem at_tre (cs : List C) (i : Nat) (h : Hc) : (ItV.tre cs).at_ i h = some cs[i]? := rfl
theorem at_treI (xs : List Int) (i : Nat) (h : Hc) : (ItV.tre (iZ xs)).at_ i h = if i < xs.length then some (some (.int (gI xs i))) else some none := by
  rw [at_tre, iZ_get]
  by_cases z : i < xs.length
  · rw [if_pos z, gI_of z]; rfl
  · rw [if_neg z, List.getElem?_eq_none (by omega)]; rfl
theorem at_rng (lo : Int) (n i : Nat) (h : Hc) : (ItV.rng lo n).at_ i h = if i < n then some (some (.int (lo + i))) else some none := rfl
theorem at_entI (xs : List Int) (i : Nat) (h : Hc) : (ItV.ent (iZ xs)).at_ i h = if i < xs.length then some (some (.tup [.int i, .int (gI xs i)])) else some none := by
  show some (match (iZ xs)[i]? with
    | some c => some (C.tup [.int i, c])
    | none => none) = _
  rw [iZ_get]
  by_cases z : i < xs.length
  · rw [if_pos z, gI_of z]; rfl
  · rw [if_neg z, List.getElem?_eq_none (by omega)]; rfl
theorem at_lst {h : Hc} {n : Nat} {xs : List C} (e : h[n]? = some xs) (i : Nat) : (ItV.lst n).at_ i h = some xs[i]? := by
  show (match h[n]? with | some cs => some cs[i]? | none => none) = _
  rw [e]
theorem while_go {t : Sl → Hc → R Bool} {b : Sl → Hc → RS'} {n : Nat} {sl sl2 : Sl} {h h1 h2 : Hc} (e1 : t sl h = .ok true h1) (e2 : b sl h1 = .nx sl2 h2) : whileF t b (n + 1) sl h = whileF t b n sl2 h2 := by
  rw [whileF, e1]
  show (match b sl h1 with
        | .nx sl2 h2 => whileF t b n sl2 h2
        | .ct sl2 h2 => whileF t b n sl2 h2
        | .bk sl2 h2 => .nx sl2 h2
        | r => r) = _
  rw [e2]
theorem while_end {t : Sl → Hc → R Bool} {b : Sl → Hc → RS'} {n : Nat} {sl : Sl} {h h1 : Hc} (e1 : t sl h = .ok false h1) : whileF t b (n + 1) sl h = .nx sl h1 := by
  rw [whileF, e1]
  rfl
theorem compF_gen {it : ItV} {n : Nat} {el : Nat → C} {g : C → Sl → Hc → R Sl} {t : Sl → Hc → R Bool} {e : Sl → Hc → R C} {sl : Sl} (inv : Nat → List C → Hc → Prop) (hat : ∀ i acc h, inv i acc h → i ≤ n → it.at_ i h = if i < n then some (some (el i)) else some none)
    (step : ∀ i acc h, inv i acc h → i < n → ∃ sl1 h1 k h2, g (el i) sl h = .ok sl1 h1 ∧ t sl1 h1 = .ok k h2 ∧ (k = false → inv (i + 1) acc h2) ∧ (k = true → acc.length < lineN ∧ ∃ x h3, e sl1 h2 = .ok x h3 ∧ inv (i + 1) (acc ++ [x]) h3)) :
    ∀ (f i : Nat) (acc : List C) (h : Hc), inv i acc h → i ≤ n → n < i + f → ∃ acc' h', compF it g t e f i sl acc h = .ok acc' h' ∧ inv n acc' h'
  | 0, i, acc, h, _, h1, h2 => by omega
  | f + 1, i, acc, h, hi, h1, h2 => by
    have e0 := hat i acc h hi h1
    by_cases z : i < n
    · obtain ⟨sl1, h1', k, h2', e1, e2, e3, e4⟩ := step i acc h hi z
      have un : compF it g t e (f + 1) i sl acc h = (if k then (e sl1 h2').bind fun x h3 => if acc.length < lineN then compF it g t e f (i + 1) sl (acc ++ [x]) h3 else .bad
          else compF it g t e f (i + 1) sl acc h2') := by
        rw [compF, e0, if_pos z]
        show (g (el i) sl h).bind _ = _
        rw [e1]
        show (t sl1 h1').bind _ = _
        rw [e2]
        rfl
      cases k with
      | false =>
        obtain ⟨acc', h', e5, e6⟩ := compF_gen inv hat step f (i + 1) acc h2' (e3 rfl) z (by omega)
        exact ⟨acc', h', by rw [un]; exact e5, e6⟩
      | true =>
        obtain ⟨l, x, h3, e5, e6⟩ := e4 rfl
        obtain ⟨acc', h', e7, e8⟩ := compF_gen inv hat step f (i + 1) (acc ++ [x]) h3 e6 z (by omega)
        refine ⟨acc', h', ?_, e8⟩
        rw [un, if_pos rfl, e5]
        show (if acc.length < lineN then compF it g t e f (i + 1) sl (acc ++ [x]) h3 else .bad) = _
        rw [if_pos l]
        exact e7
    · have : i = n := by omega
      subst this
      refine ⟨acc, h, ?_, hi⟩
      rw [compF, e0, if_neg z]
/-- a comprehension whose parts leave the store: a row of all its turns -/
theorem compF_map {it : ItV} {n : Nat} {el ev : Nat → C} {g : C → Sl → Hc → R Sl} {t : Sl → Hc → R Bool} {e : Sl → Hc → R C} {sl : Sl} {h : Hc} (hn : n ≤ 100000) (hat : ∀ i, i ≤ n → it.at_ i h = if i < n then some (some (el i)) else some none)
    (step : ∀ i, i < n → ∃ sl1, g (el i) sl h = .ok sl1 h ∧ t sl1 h = .ok true h ∧ e sl1 h = .ok (ev i) h) (f : Nat) (hf : n < f) : compF it g t e f 0 sl [] h = .ok ((List.range n).map ev) h := by
  obtain ⟨acc, h', e1, e2, e3⟩ := compF_gen (it := it) (n := n) (el := el) (g := g) (t := t) (e := e) (sl := sl) (fun i acc h' => h' = h ∧ acc = (List.range i).map ev) (fun i acc h' hi hl => by rw [hi.1]; exact hat i hl)
    (fun i acc h' hi hl => by
      obtain ⟨rfl, rfl⟩ := hi
      obtain ⟨sl1, s1, s2, s3⟩ := step i hl
      exact ⟨sl1, h', true, h', s1, s2, (fun z => by cases z), fun _ => ⟨by simp [lineN]; omega, ev i, h', s3, rfl, by simp [List.range_succ]⟩⟩) f 0 [] h ⟨rfl, rfl⟩ (Nat.zero_le _) (by omega)
  subst e2 e3
  exact e1
/-! ### repr of numbers and tuples of such -/
mutual
def C.toP : C → PyData
  | .int i => .int i
  | .bl b => .bool b
  | .tup cs => .tuple (C.toPs cs)
  | .str x => .str x
  | _ => .none
def C.toPs : List C → List PyData
  | [] => []
  | c :: cs => c.toP :: C.toPs cs
end
structure Fit (c : C) (dp wt : Nat) : Prop where
  d : ∀ h n, dp < n → toD h n c = some c.toP
  s : c.toP.showable = true
  l : c.toP.canLay0 = true
  e : c.toP.depth ≤ dp
  w : c.toP.weight ≤ wt
  h : c.toP.hasDict = false
structure Fits (cs : List C) (dp wt : Nat) : Prop where
  d : ∀ h n, dp < n → cs.mapM (toD h n) = some (C.toPs cs)
  s : PyData.showableAll (C.toPs cs) = true
  l : PyData.canLayAll0 (C.toPs cs) = true
  e : PyData.depthAll (C.toPs cs) ≤ dp
  w : PyData.weightAll (C.toPs cs) ≤ wt
  h : PyData.hasDictAll (C.toPs cs) = false
theorem Fits.nil (dp wt : Nat) : Fits [] dp wt := ⟨fun _ _ _ => rfl, rfl, rfl, Nat.zero_le _, Nat.zero_le _, rfl⟩
theorem Fits.cons {c : C} {cs : List C} {dp a b : Nat} (f : Fit c dp a) (g : Fits cs dp b) : Fits (c :: cs) dp (a + 1 + b) := by
  refine ⟨fun h n hn => ?_, ?_, ?_, ?_, ?_, ?_⟩
  · rw [List.mapM_cons, f.d h n hn, g.d h n hn]; rfl
  · show (c.toP.showable && PyData.showableAll (C.toPs cs)) = true
    rw [f.s, g.s]; rfl
  · show (c.toP.canLay0 && PyData.canLayAll0 (C.toPs cs)) = true
    rw [f.l, g.l]; rfl
  · show max c.toP.depth (PyData.depthAll (C.toPs cs)) ≤ dp
    have := f.e; have := g.e; omega
  · show c.toP.weight + 1 + PyData.weightAll (C.toPs cs) ≤ a + 1 + b
    have := f.w; have := g.w; omega
  · show (c.toP.hasDict || PyData.hasDictAll (C.toPs cs)) = false
    rw [f.h, g.h]; rfl
theorem Fits.tup {cs : List C} {dp a : Nat} (g : Fits cs dp a) : Fit (.tup cs) (dp + 1) a := by
  refine ⟨fun h n hn => ?_, g.s, g.l, ?_, g.w, g.h⟩
  · match n, hn with
    | n + 1, hn =>
      show (cs.mapM (toD h n)).map PyData.tuple = _
      rw [g.d h n (by omega)]
      rfl
  · show PyData.depthAll (C.toPs cs) + 1 ≤ dp + 1
    have := g.e; omega
theorem Fit.mono {c : C} {dp a dq b : Nat} (f : Fit c dp a) (h1 : dp ≤ dq) (h2 : a ≤ b) : Fit c dq b := ⟨fun h n hn => f.d h n (by omega), f.s, f.l, Nat.le_trans f.e h1, Nat.le_trans f.w h2, f.h⟩
theorem Fits.mono {c : List C} {dp a dq b : Nat} (f : Fits c dp a) (h1 : dp ≤ dq) (h2 : a ≤ b) : Fits c dq b := ⟨fun h n hn => f.d h n (by omega), f.s, f.l, Nat.le_trans f.e h1, Nat.le_trans f.w h2, f.h⟩
theorem fit_int {b : Nat} {i : Int} (hi : Bd b i) (hb : b < 1900) (dp : Nat) : Fit (.int i) dp b := by
  have l2 : i.natAbs.log2 < 1920 ∧ (if i == 0 then 0 else i.natAbs.log2 + 1) ≤ b := by
    by_cases z : i.natAbs = 0
    · have : i = 0 := by omega
      subst this
      exact ⟨by decide, Nat.zero_le _⟩
    · have h1 := (Nat.log2_lt z).mpr hi
      refine ⟨by omega, ?_⟩
      split <;> omega
  refine ⟨fun h n hn => ?_, decide_eq_true l2.1, rfl, Nat.zero_le _, l2.2, rfl⟩
  match n, hn with
  | n + 1, _ => rfl
theorem fits_iZ {b : Nat} (hb : b < 1900) (dp : Nat) : ∀ (xs : List Int), (∀ x ∈ xs, Bd b x) → Fits (iZ xs) dp (xs.length * (b + 1))
  | [], _ => Fits.nil _ _
  | x :: xs, h => by
    have := Fits.cons (fit_int (h x (by simp)) hb dp) (fits_iZ hb dp xs fun y hy => h y (by simp [hy]))
    refine this.mono (Nat.le_refl _) ?_
    rw [List.length_cons, Nat.succ_mul]
    omega
theorem fit_tZ {b : Nat} (hb : b < 1900) {xs : List Int} (h : ∀ x ∈ xs, Bd b x) : Fit (tZ xs) 1 (xs.length * (b + 1)) := (fits_iZ hb 0 xs h).tup
theorem repr_fit {c : C} {dp wt : Nat} (f : Fit c dp wt) (h1 : dp ≤ 50) (h2 : wt ≤ 8000) (h : Hc) : bi .repr [c] h = .ok (.rep c.toP) h := by
  show (match datum h c with
      | some d => if d.showable && SeqAt.shaped d && shortD d then R.ok (C.rep d) h else .bad
      | none => .bad) = _
  rw [show datum h c = some c.toP from f.d h 60 (by omega)]
  show (if c.toP.showable && SeqAt.shaped c.toP && shortD c.toP then R.ok (C.rep c.toP) h else .bad) = _
  have e1 : SeqAt.shaped c.toP = true := by
    unfold SeqAt.shaped
    rw [f.l, decide_eq_true (Nat.le_trans f.e (by omega))]; rfl
  have e2 : shortD c.toP = true := decide_eq_true (Nat.le_trans f.w h2)
  rw [f.s, e1, e2]
  rfl
theorem eq_rep {d : PyData} (hd : d.hasDict = false) (h : Hc) : cmpop .eq (.rep d) (.rep d) h = .ok (.bl true) h := by
  show (match ceq h 40 (.rep d) (.rep d) with
      | some b => R.ok (C.bl b) h
      | none => .bad) = _
  have : ceq h 40 (.rep d) (.rep d) = some true := by
    show (if pdEq d d then some true else eqFar h 40 (.rep d) (.rep d)) = _
    rw [pd_refl _ hd]
    rfl
  rw [this]
end Sh
set_option linter.all false
set_option autoImplicit false
set_option maxRecDepth 100000
set_option maxHeartbeats 4000000
/-! Sh, part U: what defs of the program do, wherever they stand. -/
namespace Sh
open PySem
def F_is_integer : Fn := ⟨1, 1, (.cons (.ret (.andv (.isi (.var 0) .int) (.notv (.isi (.var 0) .bool)))) .nil)⟩
def T_trimmed_1 : T := (.and (.tr (.var 1)) (.cmp .eq (.idx (.var 0) (.bin .sub (.var 1) (.con (.int 1)))) (.con (.int 0))))
def L_trimmed_2 : Ss := (.cons (.aug 1 .sub (.con (.int 1))) .nil)
def F_trimmed : Fn := ⟨2, 1, (.cons (.asg (.v 1) (.bi .len (.cons (.var 0) .nil))) (.cons (.whl T_trimmed_1 L_trimmed_2) (.cons (.ret (.bi .tuple (.cons (.slc (.var 0) .none (.some (.var 1))) .nil))) .nil)))⟩
def T_divided_1 : T := (.cmp .ge (.bi .len (.cons (.var 2) .nil)) (.bi .len (.cons (.var 1) .nil)))
def P_divided_2 : Pt := (.v 6)
def L_divided_3 : Ss := (.cons (.augi (.var 2) (.bin .add (.var 5) (.var 6)) .sub (.bin .mul (.var 4) (.idx (.var 1) (.var 6)))) .nil)
def L_divided_4 : Ss := (.cons (.asg (.v 4) (.bin .div (.pop (.var 2)) (.idx (.var 1) (.neg (.con (.int 1)))))) (.cons (.app (.var 3) (.var 4)) (.cons (.asg (.v 5) (.bin .add (.bin .sub (.bi .len (.cons (.var 2) .nil)) (.bi .len (.cons (.var 1) .nil))) (.con (.int 1)))) (.cons (.for_ P_divided_2 (.rng1 (.bin .sub (.bi .len (.cons (.var 1) .nil)) (.con (.int 1)))) L_divided_3) .nil))))
def F_divided (j_trimmed : Nat) : Fn := ⟨7, 2, (.cons (.asg (.v 2) (.bi .list (.cons (.var 0) .nil))) (.cons (.asg (.v 3) (.lst .nil)) (.cons (.whl T_divided_1 L_divided_4) (.cons (.ret (.tup (.cons (.bi .tuple (.cons (.revs (.var 3)) .nil)) (.cons (.call j_trimmed (.cons (.var 2) .nil)) .nil)))) .nil))))⟩
def P_is_polynomial_1 : Pt := (.v 1)
def L_is_polynomial_2 (j_is_integer : Nat) : Ss := (.cons (.ifs (.or (.not (.tr (.call j_is_integer (.cons (.var 1) .nil)))) (.cmp .gt (.bi .abs (.cons (.var 1) .nil)) (.glob "MOST_SIZE" (.int 1000000)))) (.cons (.ret (.con (.bl false))) .nil) .nil) .nil)
def F_is_polynomial (j_is_integer : Nat) : Fn := ⟨2, 1, (.cons (.ifs (.or (.not (.tr (.isi (.var 0) .tuple))) (.cmp .gt (.bi .len (.cons (.var 0) .nil)) (.glob "MOST_NUMBERS" (.int 13)))) (.cons (.ret (.con (.bl false))) .nil) .nil) (.cons (.for_ P_is_polynomial_1 (.seq (.var 0)) (L_is_polynomial_2 j_is_integer)) (.cons (.ret (.orv (.cmp .eq (.bi .len (.cons (.var 0) .nil)) (.con (.int 0))) (.cmp .ne (.idx (.var 0) (.neg (.con (.int 1)))) (.con (.int 0))))) .nil)))⟩
def F_check_polynomial (j_is_polynomial x_InvalidPolynomial : Nat) : Fn := ⟨1, 1, (.cons (.ifs (.not (.tr (.call j_is_polynomial (.cons (.var 0) .nil)))) (.cons (.raise x_InvalidPolynomial (.cons (.var 0) .nil)) .nil) .nil) .nil)⟩
def F_check_monic (x_NotMonic : Nat) : Fn := ⟨1, 1, (.cons (.ifs (.or (.cmp .lt (.bi .len (.cons (.var 0) .nil)) (.con (.int 2))) (.cmp .ne (.idx (.var 0) (.neg (.con (.int 1)))) (.con (.int 1)))) (.cons (.raise x_NotMonic .nil) .nil) .nil) .nil)⟩
def F_poly_divided (j_divided j_check_monic j_check_polynomial : Nat) : Fn := ⟨2, 2, (.cons (.expr (.call j_check_polynomial (.cons (.var 0) .nil))) (.cons (.expr (.call j_check_polynomial (.cons (.var 1) .nil))) (.cons (.expr (.call j_check_monic (.cons (.var 1) .nil))) (.cons (.ret (.call j_divided (.cons (.var 0) (.cons (.var 1) .nil)))) .nil))))⟩

section
variable {fns : Nat → Option Fn} {sub : Nat → Str → Option Bool} {w : Nat}
theorem un {f : Nat} {fn : Fn} (e : fns f = some fn) (d : Nat) (xs : List C) (h : Hc) (hl : xs.length = fn.np) (h2 : fn.np ≤ fn.n) : run fns sub w (d + 1) f xs h = fin h (Ss.ev (run fns sub w d) sub w fn.body none (xs.map some ++ List.replicate (fn.n - fn.np) none) h) := by
  rw [run, e]
  show (if xs.length = fn.np ∧ fn.np ≤ fn.n then _ else R.bad) = _
  rw [if_pos ⟨hl, h2⟩]
  cases Ss.ev (run fns sub w d) sub w fn.body none (xs.map some ++ List.replicate (fn.n - fn.np) none) h <;> rfl
def isI : C → Bool
  | .int _ => true
  | _ => false
theorem is_integer_run {i : Nat} (e : fns i = some F_is_integer) (d : Nat) (h : Hc) (x : C) : run fns sub w (d + 1) i [x] h = .ok (.bl (isI x)) h := by
  rw [un e d _ _ rfl (of_decide_eq_true rfl)]
  cases x <;> simp [F_is_integer, Ss.ev, S.ev, Hs.ev, E.ev, Es.ev, T.ev, Pt.put, Pts.put, Pts.len, Es.len, Oe.ev, It.ev, bind_ok, bind_err, bind_bad, th_ok, th_err, th_bad, nxth, retth, errth, badth, noerr_ok, fin_nx, fin_ret, fin_err, tidy_same, tidyX_same, List.getElem?_cons_zero, List.getElem?_cons_succ, List.set_cons_zero, List.set_cons_succ, isiC, isiT, tyC, isI]
/-! ### trimmed -/
def tl (xs : List Int) : Nat → Nat
  | 0 => 0
  | k + 1 => if gI xs k = 0 then tl xs k else k + 1
def trimZ (xs : List Int) : List Int := xs.take (tl xs xs.length)
theorem tl_le (xs : List Int) : ∀ k, tl xs k ≤ k
  | 0 => Nat.le_refl _
  | k + 1 => by unfold tl; split; have := tl_le xs k; omega; omega
theorem tl_zero (xs : List Int) : ∀ k j, tl xs k ≤ j → j < k → gI xs j = 0
  | 0, j, _, h => by omega
  | k + 1, j, h1, h2 => by
    unfold tl at h1
    split at h1
    · rename_i z
      by_cases hj : j = k
      · rw [hj]; exact z
      · exact tl_zero xs k j h1 (by omega)
    · omega
theorem tl_top (xs : List Int) : ∀ k, tl xs k = 0 ∨ gI xs (tl xs k - 1) ≠ 0
  | 0 => .inl rfl
  | k + 1 => by
    unfold tl
    split
    · exact tl_top xs k
    · rename_i z
      exact .inr z
theorem tl_uni {xs : List Int} {k m : Nat} (h1 : m ≤ k) (h2 : ∀ j, m ≤ j → j < k → gI xs j = 0) (h3 : m = 0 ∨ gI xs (m - 1) ≠ 0) : m = tl xs k := by
  have a := tl_le xs k
  have b := tl_zero xs k
  have c := tl_top xs k
  rcases Nat.lt_trichotomy m (tl xs k) with z | z | z
  · rcases c with c | c
    · omega
    · exact absurd (h2 (tl xs k - 1) (by omega) (by omega)) c
  · exact z
  · rcases h3 with c | c
    · omega
    · exact absurd (b (m - 1) (by omega) (by omega)) c
theorem getD_take (xs : List Int) (k j : Nat) : gI (xs.take k) j = if j < k then gI xs j else 0 := by
  simp only [gI, List.getD_eq_getElem?_getD, List.getElem?_take]
  split <;> rfl
theorem getD_big {xs : List Int} {j : Nat} (h : xs.length ≤ j) : gI xs j = 0 := by
  simp [gI, List.getD_eq_getElem?_getD, List.getElem?_eq_none h]
theorem trim_get (xs : List Int) (j : Nat) : gI (trimZ xs) j = gI xs j := by
  unfold trimZ
  rw [getD_take]
  split
  · rfl
  · by_cases h : j < xs.length
    · exact (tl_zero xs _ j (by omega) h).symm
    · exact (getD_big (by omega)).symm
/-- a row without noughts on its head -/
def Trim (xs : List Int) : Prop := xs = [] ∨ gI xs (xs.length - 1) ≠ 0
theorem trim_len (xs : List Int) : (trimZ xs).length = tl xs xs.length := by
  unfold trimZ
  rw [List.length_take]
  have := tl_le xs xs.length
  omega
theorem trim_trim (xs : List Int) : Trim (trimZ xs) := by
  rcases tl_top xs xs.length with h | h
  · exact .inl (List.eq_nil_of_length_eq_zero (by rw [trim_len, h]))
  · exact .inr (by rw [trim_len, trim_get]; exact h)
theorem ext_of {xs ys : List Int} (hl : xs.length = ys.length) (h : ∀ j, gI xs j = gI ys j) : xs = ys := by
  refine List.ext_getElem hl fun i h1 h2 => ?_
  have := h i
  simpa [gI, List.getD_eq_getElem?_getD, List.getElem?_eq_getElem h1, List.getElem?_eq_getElem h2] using this
theorem Trim.uni {xs ys : List Int} (a : Trim xs) (b : Trim ys) (h : ∀ j, gI xs j = gI ys j) : xs = ys := by
  refine ext_of ?_ h
  have key : ∀ {xs ys : List Int}, Trim xs → (∀ j, gI xs j = gI ys j) → xs.length ≤ ys.length := fun {xs ys} a h => by
    rcases a with rfl | a
    · exact Nat.zero_le _
    · refine Nat.le_of_not_lt fun z => a ?_
      rw [h, getD_big (by omega)]
  exact Nat.le_antisymm (key a h) (key b fun j => (h j).symm)
theorem Trim.trim {xs : List Int} (a : Trim xs) : trimZ xs = xs := (trim_trim xs).uni a (trim_get xs)
theorem truth_int (i : Int) (h : Hc) : truth (.int i) h = .ok (i != 0) h := rfl
theorem sub_int (i j : Int) (h : Hc) : binop .sub (.int i) (.int j) h = .ok (.int (i - j)) h := rfl
theorem add_int (i j : Int) (h : Hc) : binop .add (.int i) (.int j) h = .ok (.int (i + j)) h := rfl
theorem aug_sub (i j : Int) (h : Hc) : augC .sub i j h = .ok (.int (i - j)) h := rfl
theorem aug_add (i j : Int) (h : Hc) : augC .add i j h = .ok (.int (i + j)) h := rfl
theorem bin_mul' (i j : C) (h : Hc) : binop .mul i j h = mulC i j h := rfl
theorem bin_div' (i j : C) (h : Hc) : binop .div i j h = divC i j h := rfl
theorem bin_mod' (i j : C) (h : Hc) : binop .mod i j h = modC i j h := rfl
theorem truth_b (b : Bool) (h : Hc) : truth (.bl b) h = .ok b h := rfl
theorem gt_i (h : Hc) (i j : Int) : cmpop .gt (.int i) (.int j) h = .ok (.bl (decide (j < i))) h := rfl
theorem ge_i (h : Hc) (i j : Int) : cmpop .ge (.int i) (.int j) h = .ok (.bl (decide (j ≤ i))) h := rfl
theorem lt_i (h : Hc) (i j : Int) : cmpop .lt (.int i) (.int j) h = .ok (.bl (decide (i < j))) h := rfl
theorem le_i (h : Hc) (i j : Int) : cmpop .le (.int i) (.int j) h = .ok (.bl (decide (i ≤ j))) h := rfl
theorem abs_i (h : Hc) (i : Int) : bi .abs [.int i] h = .ok (.int (if i < 0 then -i else i)) h := rfl
theorem trimmed_run {i : Nat} (e : fns i = some F_trimmed) (d n : Nat) (h : Hc) (xs : List Int) (hx : h[n]? = some (iZ xs)) (cl : ClH h) (hw : xs.length < w) : run fns sub w (d + 1) i [.ref n] h = .ok (tZ (trimZ xs)) h := by
  have loop : ∀ (k f : Nat), k ≤ xs.length → k < f →
      whileF (T.ev (run fns sub w d) sub w none T_trimmed_1) (Ss.ev (run fns sub w d) sub w L_trimmed_2 none) f [some (.ref n), some (.int k)] h = .nx [some (.ref n), some (.int (tl xs k))] h := by
    intro k
    induction k with
    | zero =>
      intro f _ hf
      match f, hf with
      | f + 1, _ => exact while_end (h1 := h) (by simp [T_trimmed_1, Ss.ev, S.ev, Hs.ev, E.ev, Es.ev, T.ev, Pt.put, Pts.put, Pts.len, Es.len, Oe.ev, It.ev, bind_ok, bind_err, bind_bad, th_ok, th_err, th_bad, nxth, retth, errth, badth, noerr_ok, fin_nx, fin_ret, fin_err, tidy_same, tidyX_same, List.getElem?_cons_zero, List.getElem?_cons_succ, List.set_cons_zero, List.set_cons_succ, truth_int])
    | succ k ih =>
      intro f hk hf
      match f, hf with
      | f + 1, hf =>
        have it : item (.ref n) (.int (k : Int)) h = .ok (.int (gI xs k)) h := item_iZ k (seq_ref hx) (by omega)
        have e1 : ((k + 1 : Nat) : Int) - 1 = (k : Int) := by omega
        have e2 : ¬ ((k : Int) + 1 = 0) := by omega
        by_cases z : gI xs k = 0
        · rw [while_go (sl2 := [some (.ref n), some (.int k)]) (h1 := h) (h2 := h) (by simp [T_trimmed_1, Ss.ev, S.ev, Hs.ev, E.ev, Es.ev, T.ev, Pt.put, Pts.put, Pts.len, Es.len, Oe.ev, It.ev, bind_ok, bind_err, bind_bad, th_ok, th_err, th_bad, nxth, retth, errth, badth, noerr_ok, fin_nx, fin_ret, fin_err, tidy_same, tidyX_same, List.getElem?_cons_zero, List.getElem?_cons_succ, List.set_cons_zero, List.set_cons_succ, truth_int, e2, sub_int, it, eq_int, z]) (by simp [L_trimmed_2, Ss.ev, S.ev, Hs.ev, E.ev, Es.ev, T.ev, Pt.put, Pts.put, Pts.len, Es.len, Oe.ev, It.ev, bind_ok, bind_err, bind_bad, th_ok, th_err, th_bad, nxth, retth, errth, badth, noerr_ok, fin_nx, fin_ret, fin_err, tidy_same, tidyX_same, List.getElem?_cons_zero, List.getElem?_cons_succ, List.set_cons_zero, List.set_cons_succ, aug_sub]), ih f (by omega) (by omega)]
          rw [tl, if_pos z]
        · rw [while_end (h1 := h) (by simp [T_trimmed_1, Ss.ev, S.ev, Hs.ev, E.ev, Es.ev, T.ev, Pt.put, Pts.put, Pts.len, Es.len, Oe.ev, It.ev, bind_ok, bind_err, bind_bad, th_ok, th_err, th_bad, nxth, retth, errth, badth, noerr_ok, fin_nx, fin_ret, fin_err, tidy_same, tidyX_same, List.getElem?_cons_zero, List.getElem?_cons_succ, List.set_cons_zero, List.set_cons_succ, truth_int, e2, sub_int, it, eq_int, z])]
          rw [tl, if_neg z]
  rw [un e d _ _ rfl (of_decide_eq_true rfl)]
  have le := tl_le xs xs.length
  have lp := loop xs.length w (Nat.le_refl _) hw
  have cu : cutC (iZ xs) none (some ((tl xs xs.length : Nat) : Int)) = iZ (trimZ xs) := by
    rw [cut_to _ _ (by rw [iZ_len]; exact le), iZ_take]; rfl
  simp only [F_trimmed, Ss.ev, S.ev, Hs.ev, E.ev, Es.ev, T.ev, Pt.put, Pts.put, Pts.len, Es.len, Oe.ev, It.ev, bind_ok, bind_err, bind_bad, th_ok, th_err, th_bad, nxth, retth, errth, badth, noerr_ok, fin_nx, fin_ret, fin_err, tidy_same, tidyX_same, List.getElem?_cons_zero, List.getElem?_cons_succ, List.set_cons_zero, List.set_cons_succ, List.map_cons, List.map_nil, List.replicate, List.cons_append, List.nil_append, len_refI hx, Nat.reduceSub]
  rw [lp]
  simp only [Ss.ev, S.ev, Hs.ev, E.ev, Es.ev, T.ev, Pt.put, Pts.put, Pts.len, Es.len, Oe.ev, It.ev, bind_ok, bind_err, bind_bad, th_ok, th_err, th_bad, nxth, retth, errth, badth, noerr_ok, fin_nx, fin_ret, fin_err, tidy_same, tidyX_same, List.getElem?_cons_zero, List.getElem?_cons_succ, List.set_cons_zero, List.set_cons_succ, slice_ref hx, cu, tuple_ref (last_get h _)]
  exact tidy_cl cl _ _ (iZ_unders _ _)

/-! ### polynomials -/
def okN : C → Bool
  | .int i => decide (i.natAbs ≤ 1000000)
  | _ => false
def lastOk (cs : List C) : Bool := match cs[cs.length - 1]? with
  | some (.int i) => i != 0
  | _ => true
def isPoly : C → Bool
  | .tup cs => decide (cs.length ≤ 13) && (cs.all okN && lastOk cs)
  | _ => false
theorem at_treC (cs : List C) (i : Nat) (h : Hc) : (ItV.tre cs).at_ i h = if i < cs.length then some (some (gC cs i)) else some none := by
  rw [at_tre]
  by_cases z : i < cs.length
  · rw [if_pos z, gC_of z]
  · rw [if_neg z, List.getElem?_eq_none (by omega)]
theorem len_tup' (h : Hc) (xs : List C) : bi .len [.tup xs] h = .ok (.int xs.length) h := rfl
theorem all_getD {cs : List C} {p : C → Bool} : cs.all p = true ↔ ∀ j, j < cs.length → p (gC cs j) = true := by
  rw [List.all_eq_true]
  constructor
  · intro h j hj
    have : gC cs j = cs[j] := by simp [gC, List.getD, hj]
    rw [this]
    exact h _ (List.getElem_mem hj)
  · intro h x hx
    obtain ⟨j, hj, rfl⟩ := List.getElem_of_mem hx
    have := h j hj
    rwa [show gC cs j = cs[j] by simp [gC, List.getD, hj]] at this
theorem is_polynomial_run {i j : Nat} (e : fns i = some (F_is_polynomial j)) (e1 : fns j = some F_is_integer) (hw : 1000 < w) (d : Nat) (h : Hc) (x : C) : run fns sub w (d + 2) i [x] h = .ok (.bl (isPoly x)) h := by
  rw [un e _ _ _ rfl (of_decide_eq_true rfl)]
  have ri := fun y => is_integer_run (sub := sub) (w := w) e1 d h y
  cases x
  case tup cs =>
    by_cases hl : cs.length ≤ 13
    · have l1 : decide (((13 : Nat) : Int) < (cs.length : Int)) = false := by simp; omega
      have loop := forF_ret (it := .tre cs) (n := cs.length) (el := fun i => gC cs i) (g := Pt.put (run fns sub w (d + 1)) sub w none P_is_polynomial_1) (b := Ss.ev (run fns sub w (d + 1)) sub w (L_is_polynomial_2 j) none)
        (fun i sl h' => h' = h ∧ (∃ y, sl = [some (.tup cs), y]) ∧ ∀ k, k < i → okN (gC cs k) = true) (fun i c h' => h' = h ∧ c = .bl false ∧ okN (gC cs i) = false) (fun i sl h' _ _ => at_treC cs i h')
        (fun i sl h' ⟨a1, ⟨y, a2⟩, a3⟩ hi => by
          subst a1 a2
          refine ⟨[some (.tup cs), some (gC cs i)], h', by simp [P_is_polynomial_1, Ss.ev, S.ev, Hs.ev, E.ev, Es.ev, T.ev, Pt.put, Pts.put, Pts.len, Es.len, Oe.ev, It.ev, bind_ok, bind_err, bind_bad, th_ok, th_err, th_bad, nxth, retth, errth, badth, noerr_ok, fin_nx, fin_ret, fin_err, tidy_same, tidyX_same, List.getElem?_cons_zero, List.getElem?_cons_succ, List.set_cons_zero, List.set_cons_succ], ?_⟩
          cases z : okN (gC cs i)
          · refine .inr ⟨.bl false, h', ?_, rfl, rfl, rfl⟩
            cases hc : gC cs i
            case int v =>
              rw [hc] at z
              have z1 : 1000000 < (if v < 0 then -v else v) := by
                have := of_decide_eq_false z
                split <;> omega
              simp [L_is_polynomial_2, Ss.ev, S.ev, Hs.ev, E.ev, Es.ev, T.ev, Pt.put, Pts.put, Pts.len, Es.len, Oe.ev, It.ev, bind_ok, bind_err, bind_bad, th_ok, th_err, th_bad, nxth, retth, errth, badth, noerr_ok, fin_nx, fin_ret, fin_err, tidy_same, tidyX_same, List.getElem?_cons_zero, List.getElem?_cons_succ, List.set_cons_zero, List.set_cons_succ, ri, isI, truth_b, abs_i, gt_i, z1]
            all_goals simp [L_is_polynomial_2, Ss.ev, S.ev, Hs.ev, E.ev, Es.ev, T.ev, Pt.put, Pts.put, Pts.len, Es.len, Oe.ev, It.ev, bind_ok, bind_err, bind_bad, th_ok, th_err, th_bad, nxth, retth, errth, badth, noerr_ok, fin_nx, fin_ret, fin_err, tidy_same, tidyX_same, List.getElem?_cons_zero, List.getElem?_cons_succ, List.set_cons_zero, List.set_cons_succ, ri, isI, truth_b]
          · refine .inl ⟨[some (.tup cs), some (gC cs i)], h', .inl ?_, rfl, ⟨_, rfl⟩, fun k hk => ?_⟩
            · cases hc : gC cs i
              case int v =>
                rw [hc] at z
                have z1 : ¬ 1000000 < (if v < 0 then -v else v) := by
                  have := of_decide_eq_true z
                  split <;> omega
                simp [L_is_polynomial_2, Ss.ev, S.ev, Hs.ev, E.ev, Es.ev, T.ev, Pt.put, Pts.put, Pts.len, Es.len, Oe.ev, It.ev, bind_ok, bind_err, bind_bad, th_ok, th_err, th_bad, nxth, retth, errth, badth, noerr_ok, fin_nx, fin_ret, fin_err, tidy_same, tidyX_same, List.getElem?_cons_zero, List.getElem?_cons_succ, List.set_cons_zero, List.set_cons_succ, ri, isI, truth_b, abs_i, gt_i, z1]
              all_goals (rw [hc] at z; cases z)
            · by_cases hk' : k = i
              · rw [hk']; exact z
              · exact a3 k (by omega)) w 0 [some (.tup cs), none] h ⟨rfl, ⟨_, rfl⟩, fun k hk => absurd hk (by omega)⟩ (Nat.zero_le _) (by omega)
      rcases loop with ⟨sl', h', l2, rfl, ⟨y, rfl⟩, l3⟩ | ⟨k, c, h', _, l4, l5, rfl, rfl, l6⟩
      · have al : cs.all okN = true := all_getD.mpr l3
        by_cases hz : cs.length = 0
        · have : cs = [] := List.eq_nil_of_length_eq_zero hz
          subst this
          simp [F_is_polynomial, Ss.ev, S.ev, Hs.ev, E.ev, Es.ev, T.ev, Pt.put, Pts.put, Pts.len, Es.len, Oe.ev, It.ev, bind_ok, bind_err, bind_bad, th_ok, th_err, th_bad, nxth, retth, errth, badth, noerr_ok, fin_nx, fin_ret, fin_err, tidy_same, tidyX_same, List.getElem?_cons_zero, List.getElem?_cons_succ, List.set_cons_zero, List.set_cons_succ, isiC, isiT, tyC, truth_b, len_tup', gt_i, l2, eq_int]
          rfl
        · have l7 := l3 (cs.length - 1) (by omega)
          have l8 : cs[cs.length - 1]? = some (gC cs (cs.length - 1)) := gC_of (by omega)
          cases hc : gC cs (cs.length - 1)
          case int v =>
            have it : item (.tup cs) (.int (-1)) h' = .ok (.int v) h' := item_of (xs := cs) (j := cs.length - 1) rfl (ix_last _ (by omega)) (by rw [l8, hc])
            have r1 : isPoly (.tup cs) = (v != 0) := by
              show (decide (cs.length ≤ 13) && (cs.all okN && lastOk cs)) = _
              unfold lastOk
              rw [al, l8, hc, decide_eq_true hl]
              rfl
            have hz' : ((cs.length : Int) == 0) = false := by rw [beq_eq_false_iff_ne]; omega
            have : ¬ (13 : Int) < (cs.length : Int) := by omega
            simp [F_is_polynomial, Ss.ev, S.ev, Hs.ev, E.ev, Es.ev, T.ev, Pt.put, Pts.put, Pts.len, Es.len, Oe.ev, It.ev, bind_ok, bind_err, bind_bad, th_ok, th_err, th_bad, nxth, retth, errth, badth, noerr_ok, fin_nx, fin_ret, fin_err, tidy_same, tidyX_same, List.getElem?_cons_zero, List.getElem?_cons_succ, List.set_cons_zero, List.set_cons_succ, isiC, isiT, tyC, truth_b, len_tup', gt_i, this, l2, eq_int, hz', it, ne_int, r1]
            simp only [bne, Bool.not_not]
          all_goals (rw [hc] at l7; cases l7)
      · have al : cs.all okN = false := by
          cases hq : cs.all okN
          · rfl
          · have := all_getD.mp hq k l4
            rw [l6] at this; cases this
        have r1 : isPoly (.tup cs) = false := by
          show (decide (cs.length ≤ 13) && (cs.all okN && lastOk cs)) = _
          rw [al]; simp
        have : ¬ (13 : Int) < (cs.length : Int) := by omega
        simp [F_is_polynomial, Ss.ev, S.ev, Hs.ev, E.ev, Es.ev, T.ev, Pt.put, Pts.put, Pts.len, Es.len, Oe.ev, It.ev, bind_ok, bind_err, bind_bad, th_ok, th_err, th_bad, nxth, retth, errth, badth, noerr_ok, fin_nx, fin_ret, fin_err, tidy_same, tidyX_same, List.getElem?_cons_zero, List.getElem?_cons_succ, List.set_cons_zero, List.set_cons_succ, isiC, isiT, tyC, truth_b, len_tup', gt_i, this, l5, r1]
    · have r1 : isPoly (.tup cs) = false := by
        show (decide (cs.length ≤ 13) && (cs.all okN && lastOk cs)) = _
        rw [decide_eq_false hl]; rfl
      have : (13 : Int) < (cs.length : Int) := by omega
      simp [F_is_polynomial, Ss.ev, S.ev, Hs.ev, E.ev, Es.ev, T.ev, Pt.put, Pts.put, Pts.len, Es.len, Oe.ev, It.ev, bind_ok, bind_err, bind_bad, th_ok, th_err, th_bad, nxth, retth, errth, badth, noerr_ok, fin_nx, fin_ret, fin_err, tidy_same, tidyX_same, List.getElem?_cons_zero, List.getElem?_cons_succ, List.set_cons_zero, List.set_cons_succ, isiC, isiT, tyC, truth_b, len_tup', gt_i, this, r1]
  all_goals simp [F_is_polynomial, Ss.ev, S.ev, Hs.ev, E.ev, Es.ev, T.ev, Pt.put, Pts.put, Pts.len, Es.len, Oe.ev, It.ev, bind_ok, bind_err, bind_bad, th_ok, th_err, th_bad, nxth, retth, errth, badth, noerr_ok, fin_nx, fin_ret, fin_err, tidy_same, tidyX_same, List.getElem?_cons_zero, List.getElem?_cons_succ, List.set_cons_zero, List.set_cons_succ, isiC, isiT, tyC, truth_b, isPoly]
theorem check_polynomial_run {i j k x0 : Nat} (e : fns i = some (F_check_polynomial j x0)) (e1 : fns j = some (F_is_polynomial k)) (e2 : fns k = some F_is_integer) (hw : 1000 < w) (d : Nat) (h : Hc) (x : C) : run fns sub w (d + 3) i [x] h = if isPoly x then .ok .non h else .err x0 [x] h := by
  rw [un e _ _ _ rfl (of_decide_eq_true rfl)]
  cases z : isPoly x <;> simp [F_check_polynomial, Ss.ev, S.ev, Hs.ev, E.ev, Es.ev, T.ev, Pt.put, Pts.put, Pts.len, Es.len, Oe.ev, It.ev, bind_ok, bind_err, bind_bad, th_ok, th_err, th_bad, nxth, retth, errth, badth, noerr_ok, fin_nx, fin_ret, fin_err, tidy_same, tidyX_same, List.getElem?_cons_zero, List.getElem?_cons_succ, List.set_cons_zero, List.set_cons_succ, is_polynomial_run e1 e2 hw, truth_b, z]
end
end Sh
set_option linter.all false
set_option autoImplicit false
set_option maxRecDepth 100000
set_option maxHeartbeats 4000000
/-! Sh, part V: division of rows. -/
namespace Sh
open PySem
/-- what two rows, multiplied, have at a power -/
def cv : List Int → (Nat → Int) → Nat → Int
  | [], _, _ => 0
  | x :: xs, o, k => x * o k + (if k = 0 then 0 else cv xs o (k - 1))
/-- led by a power -/
def shf (s : Nat) (f : Nat → Int) (k : Nat) : Int := if k < s then 0 else f (k - s)
theorem gI_range {n : Nat} (f : Nat → Int) (k : Nat) : gI ((List.range n).map f) k = if k < n then f k else 0 := by
  unfold gI
  rw [List.getD_eq_getElem?_getD, List.getElem?_map]
  by_cases h : k < n
  · rw [if_pos h, List.getElem?_range h]; rfl
  · rw [if_neg h, List.getElem?_eq_none (by simpa using h)]; rfl
theorem set_range {n i : Nat} (f : Nat → Int) (v : Int) : ((List.range n).map f).set i v = (List.range n).map fun k => if k = i then v else f k := by
  refine ext_of (by simp) fun j => ?_
  rw [gI_range]
  unfold gI
  rw [List.getD_eq_getElem?_getD, List.getElem?_set]
  by_cases h : i = j
  · subst h
    simp only [if_true, List.length_map, List.length_range]
    by_cases hi : i < n
    · simp [hi]
    · simp [hi]
  · rw [if_neg h, if_neg (fun z : j = i => h z.symm), List.getElem?_map]
    by_cases hj : j < n
    · rw [if_pos hj, List.getElem?_range hj]; rfl
    · rw [if_neg hj, List.getElem?_eq_none (by simpa using hj)]; rfl
theorem row_eq (xs : List Int) : xs = (List.range xs.length).map (gI xs) := ext_of (by simp) fun j => by
  rw [gI_range]
  split
  · rfl
  · exact getD_big (by omega)
theorem gI_dl (xs : List Int) (k : Nat) : gI xs.dropLast k = if k < xs.length - 1 then gI xs k else 0 := by
  rw [List.dropLast_eq_take, getD_take]
theorem dl_len (xs : List Int) : xs.dropLast.length = xs.length - 1 := by simp
theorem gI_app (xs ys : List Int) (k : Nat) : gI (xs ++ ys) k = if k < xs.length then gI xs k else gI ys (k - xs.length) := by
  unfold gI
  rw [List.getD_eq_getElem?_getD, List.getElem?_append]
  split <;> rfl
theorem gI_one (x : Int) (k : Nat) : gI [x] k = if k = 0 then x else 0 := by
  cases k with
  | zero => rfl
  | succ k => rfl
theorem gI_mem {xs : List Int} {P : Int → Prop} (h : ∀ x ∈ xs, P x) (h0 : P 0) (k : Nat) : P (gI xs k) := by
  by_cases hk : k < xs.length
  · have := gI_of hk
    exact h _ (List.mem_of_getElem? this)
  · rw [getD_big (by omega)]; exact h0
theorem bd0 (b : Nat) : Bd b 0 := Nat.pow_pos (by decide)
theorem ss_cons (call : Nat → List C → Hc → R C) (sub : Nat → Str → Option Bool) (w : Nat) (s : S) (ss : Ss) (cx : Option (Nat × List C)) (sl : Sl) (h : Hc) : Ss.ev call sub w (.cons s ss) cx sl h = (S.ev call sub w s cx sl h).th fun sl1 h1 => Ss.ev call sub w ss cx sl1 h1 := rfl
theorem ss_nil (call : Nat → List C → Hc → R C) (sub : Nat → Str → Option Bool) (w : Nat) (cx : Option (Nat × List C)) (sl : Sl) (h : Hc) : Ss.ev call sub w .nil cx sl h = .nx sl h := rfl
theorem it_rng1 {call : Nat → List C → Hc → R C} {sub : Nat → Str → Option Bool} {w : Nat} {cx : Option (Nat × List C)} {a : E} {sl : Sl} {h h1 : Hc} {n : Nat} (e : E.ev call sub w cx a sl h = .ok (.int (n : Int)) h1) (hn : n < 100000) : It.ev call sub w cx (.rng1 a) sl h = .ok (.rng 0 n) h1 := by
  unfold It.ev
  rw [e, bind_ok]
  dsimp only
  split
  · rw [Int.toNat_natCast]
  · omega
theorem item_pop {fns : Nat → Option Fn} {sub : Nat → Str → Option Bool} {w d : Nat} {sl : Sl} {h : Hc} {i n : Nat} {xs : List Int} (e : sl[i]? = some (some (.ref n))) (hx : h[n]? = some (iZ xs)) (hl : 0 < xs.length) :
    E.ev (run fns sub w d) sub w none (.pop (.var i)) sl h = .ok (.int (gI xs (xs.length - 1))) (h.set n (iZ xs.dropLast)) := by
  have e2 : (iZ xs)[(iZ xs).length - 1]? = some (.int (gI xs (xs.length - 1))) := by rw [iZ_len, iZ_get, gI_of (by omega)]; rfl
  simp only [E.ev, e, bind_ok, hx, e2, iZ_dl]
theorem app_ev {fns : Nat → Option Fn} {sub : Nat → Str → Option Bool} {w d : Nat} {sl : Sl} {h : Hc} {i j n : Nat} {xs : List Int} {x : Int} (e : sl[i]? = some (some (.ref n))) (e1 : sl[j]? = some (some (.int x))) (hx : h[n]? = some (iZ xs)) (hl : xs.length < 100000) :
    S.ev (run fns sub w d) sub w (.app (.var i) (.var j)) none sl h = .nx sl (h.set n (iZ (xs ++ [x]))) := by
  simp only [S.ev, E.ev, e, e1, th_ok, hx]
  rw [iZ_len, if_pos (Nat.lt_trans hl (by decide)), iZ_app]
  rfl
theorem cv_snoc (t : Int) (Q : List Int) (o : Nat → Int) (k : Nat) : cv (t :: Q) o k = t * o k + shf 1 (cv Q o) k := by
  show t * o k + (if k = 0 then 0 else cv Q o (k - 1)) = _
  unfold shf
  by_cases h : k = 0
  · rw [if_pos h, if_pos (by omega)]
  · rw [if_neg h, if_neg (by omega)]
theorem tz_emp (q : List Int) : (tZ q).nr = true := iZ_nr q
section
variable {fns : Nat → Option Fn} {sub : Nat → Str → Option Bool} {w : Nat}
theorem app_int {h : Hc} {n : Nat} {xs : List Int} (e : h[n]? = some (iZ xs)) (hl : xs.length < 100000) (x : Int) : (match h[n]? with
      | some ys => if ys.length < lineN then (RS'.nx ([] : Sl) (h.set n (ys ++ [.int x]))) else .bad
      | none => .bad) = RS'.nx [] (h.set n (iZ (xs ++ [x]))) := by
  rw [e]
  show (if (iZ xs).length < lineN then (RS'.nx ([] : Sl) (h.set n (iZ xs ++ [.int x]))) else .bad) = _
  rw [iZ_len, if_pos (Nat.lt_trans hl (by decide)), iZ_app]
  rfl
theorem shf_step (s k : Nat) (t : Int) (Q : List Int) (o : Nat → Int) : shf s (cv (t :: Q) o) k = shf (s + 1) (cv Q o) k + (if s ≤ k then t * o (k - s) else 0) := by
  unfold shf
  by_cases q1 : k < s
  · rw [if_pos q1, if_pos (show k < s + 1 by omega), if_neg (show ¬ s ≤ k by omega)]; rfl
  · rw [if_neg q1, if_pos (show s ≤ k by omega), cv_snoc]
    unfold shf
    by_cases q2 : k = s
    · rw [if_pos (show k - s < 1 by omega), if_pos (show k < s + 1 by omega)]; omega
    · rw [if_neg (show ¬ k - s < 1 by omega), if_neg (show ¬ k < s + 1 by omega), show k - s - 1 = k - (s + 1) by omega, Int.add_comm]
/-- a monic row's numbers -/
def moI (lows : List Int) (k : Nat) : Int := if k < lows.length then gI lows k else if k = lows.length then 1 else 0
theorem gI_monic (lows : List Int) (k : Nat) : gI (lows ++ [1]) k = moI lows k := by
  unfold moI
  rw [gI_app, gI_one]
  split
  · rfl
  · by_cases hk : k = lows.length
    · rw [if_pos hk, if_pos (by omega)]
    · rw [if_neg hk, if_neg (by omega)]
/-- one step of a division: s is where the other one's numbers are taken off, j of them so far -/
def stepL (r lows : List Int) (t : Int) (n s j : Nat) : List Int := (List.range n).map fun k => gI r k - (if s ≤ k ∧ k < s + j then t * gI lows (k - s) else 0)
theorem stepL_len (r lows : List Int) (t : Int) (n s j : Nat) : (stepL r lows t n s j).length = n := by simp [stepL]
theorem stepL_get (r lows : List Int) (t : Int) (n s j k : Nat) : gI (stepL r lows t n s j) k = if k < n then gI r k - (if s ≤ k ∧ k < s + j then t * gI lows (k - s) else 0) else 0 := gI_range _ _
theorem stepL_zero (r lows : List Int) (t : Int) (s : Nat) : stepL r lows t r.length s 0 = r := ext_of (by rw [stepL_len]) fun k => by
  rw [stepL_get, if_neg (show ¬ (s ≤ k ∧ k < s + 0) by omega)]
  split
  · omega
  · exact (getD_big (by omega)).symm
theorem stepL_set (r lows : List Int) (t : Int) (n s j : Nat) (h : s + j < n) : (stepL r lows t n s j).set (s + j) (gI r (s + j) - t * gI lows j) = stepL r lows t n s (j + 1) := by
  unfold stepL
  rw [set_range]
  refine List.map_congr_left fun k hk => ?_
  by_cases hkj : k = s + j
  · rw [if_pos hkj, hkj, if_pos (show s ≤ s + j ∧ s + j < s + (j + 1) by omega), show s + j - s = j by omega]
  · rw [if_neg hkj]
    by_cases hc : s ≤ k ∧ k < s + j
    · rw [if_pos hc, if_pos (show s ≤ k ∧ k < s + (j + 1) from ⟨hc.1, by omega⟩)]
    · rw [if_neg hc, if_neg (fun z : s ≤ k ∧ k < s + (j + 1) => hc ⟨z.1, by omega⟩)]
theorem stepL_at (r lows : List Int) (t : Int) (n s j : Nat) (h : s + j < n) : gI (stepL r lows t n s j) (s + j) = gI r (s + j) := by
  rw [stepL_get, if_pos h, if_neg (show ¬ (s ≤ s + j ∧ s + j < s + j) by omega)]; omega
/-- what a step takes off -/
theorem step_coef (r lows : List Int) (s : Nat) (hs : r.length = s + 1 + lows.length) (k : Nat) :
    gI r k = gI (stepL r.dropLast lows (gI r (r.length - 1)) (r.length - 1) s lows.length) k + (if s ≤ k then gI r (r.length - 1) * moI lows (k - s) else 0) := by
  rw [stepL_get]
  unfold moI
  by_cases q1 : k < r.length - 1
  · rw [if_pos q1, gI_dl, if_pos q1]
    by_cases q2 : s ≤ k
    · rw [if_pos (show s ≤ k ∧ k < s + lows.length by omega), if_pos q2, if_pos (show k - s < lows.length by omega)]; omega
    · rw [if_neg (fun z : s ≤ k ∧ k < s + lows.length => q2 z.1), if_neg q2]; omega
  · rw [if_neg q1, if_pos (show s ≤ k by omega), if_neg (show ¬ k - s < lows.length by omega)]
    by_cases q3 : k = r.length - 1
    · rw [if_pos (show k - s = lows.length by omega), q3]; omega
    · rw [if_neg (show ¬ k - s = lows.length by omega), getD_big (show r.length ≤ k by omega)]; omega
theorem step_bd {r lows : List Int} {B : Nat} (br : ∀ x ∈ r, Bd B x) (bl : ∀ x ∈ lows, Bd 5 x) (t : Int) (ht : Bd B t) (n s j : Nat) : ∀ x ∈ stepL r.dropLast lows t n s j, Bd (B + 6) x := by
  intro x hx
  obtain ⟨k, hk⟩ := List.getElem?_of_mem hx
  have hk2 := (List.getElem?_eq_some_iff.mp hk).1
  rw [gI_of hk2] at hk
  cases hk
  rw [stepL_get]
  split
  · have b1 : Bd (B + 5) (gI r.dropLast k) := (gI_mem (P := Bd B) (fun x hx => br x (List.dropLast_subset _ hx)) (bd0 _) k).mono (by omega)
    have b2 : Bd (B + 5) (if s ≤ k ∧ k < s + j then t * gI lows (k - s) else 0) := by
      split
      · exact ht.mul (gI_mem (P := Bd 5) bl (bd0 _) _)
      · exact bd0 _
    exact b1.sub b2
  · exact bd0 _
def stD (W lows : List Int) (n : Nat) (x4 x5 x6 : Option C) : Sl := [some (tZ W), some (tZ (lows ++ [1])), some (.ref n), some (.ref (n + 1)), x4, x5, x6]
def hpD (h : Hc) (r q : List Int) : Hc := h ++ [iZ r, iZ q]
section
variable {fns : Nat → Option Fn} {sub : Nat → Str → Option Bool} {w : Nat} {h : Hc}
theorem hpD0 (r q : List Int) : (hpD h r q)[h.length]? = some (iZ r) := by simp [hpD]
theorem hpD1 (r q : List Int) : (hpD h r q)[h.length + 1]? = some (iZ q) := by simp [hpD]
theorem hpS0 (r q r' : List Int) : (hpD h r q).set h.length (iZ r') = hpD h r' q := by simp [hpD]
theorem hpS1 (r q q' : List Int) : (hpD h r q).set (h.length + 1) (iZ q') = hpD h r q' := by simp [hpD, List.set_append]
theorem div_inner (d : Nat) (W lows : List Int) (hl : lows.length ≤ 30) (hw : 1000 < w) (bl : ∀ x ∈ lows, Bd 5 x) (r q : List Int) (t : Int) (s : Nat) (x6 : Option C) (hn : r.length = s + lows.length) (bt : Bd 400 t) :
    ∃ x6', forF (.rng 0 lows.length) (Pt.put (run fns sub w d) sub w none P_divided_2) (Ss.ev (run fns sub w d) sub w L_divided_3 none) w 0 (stD W lows h.length (some (.int t)) (some (.int (s : Int))) x6) (hpD h r q)
        = .nx (stD W lows h.length (some (.int t)) (some (.int (s : Int))) x6') (hpD h (stepL r lows t r.length s lows.length) q) := by
  obtain ⟨sl', h', l1, ⟨x6', l2⟩, l3⟩ := forF_gen (it := .rng 0 lows.length) (n := lows.length) (el := fun i => .int (0 + (i : Int))) (g := Pt.put (run fns sub w d) sub w none P_divided_2) (b := Ss.ev (run fns sub w d) sub w L_divided_3 none)
      (fun j sl h' => (∃ x6, sl = stD W lows h.length (some (.int t)) (some (.int (s : Int))) x6) ∧ h' = hpD h (stepL r lows t r.length s j) q)
      (fun _ _ _ _ _ => rfl) (fun j sl h' ⟨⟨x6, a1⟩, a2⟩ hj => by
        subst a1 a2
        have e0 : (s : Int) + (0 + (j : Int)) = ((s + j : Nat) : Int) := by omega
        have i1 : item (.ref h.length) (.int ((s + j : Nat) : Int)) (hpD h (stepL r lows t r.length s j) q) = .ok (.int (gI r (s + j))) (hpD h (stepL r lows t r.length s j) q) := by
          rw [item_iZ (s + j) (seq_ref (hpD0 _ _)) (by rw [stepL_len]; omega), stepL_at _ _ _ _ _ _ (by omega)]
        have i2 : item (tZ (lows ++ [1])) (.int (0 + (j : Int))) (hpD h (stepL r lows t r.length s j) q) = .ok (.int (gI lows j)) (hpD h (stepL r lows t r.length s j) q) := by
          rw [item_iZI j (seq_tZ _ _) (by omega) (by simp; omega), gI_monic]
          unfold moI
          rw [if_pos hj]
        have m1 := mul_of (i := t) (j := gI lows j) bt (gI_mem (P := Bd 5) bl (bd0 _) j) (by decide) (by decide)
        have se : setitem (.ref h.length) (.int ((s + j : Nat) : Int)) (.int (gI r (s + j) - t * gI lows j)) (hpD h (stepL r lows t r.length s j) q) = .ok () (hpD h (stepL r lows t r.length s (j + 1)) q) := by
          rw [setitem_iZ (hpD0 _ _) (by rw [stepL_len]; omega), hpS0, stepL_set _ _ _ _ _ _ (by omega)]
        refine ⟨stD W lows h.length (some (.int t)) (some (.int (s : Int))) (some (.int (0 + (j : Int)))), hpD h (stepL r lows t r.length s j) q, stD W lows h.length (some (.int t)) (some (.int (s : Int))) (some (.int (0 + (j : Int)))), hpD h (stepL r lows t r.length s (j + 1)) q, rfl, .inl ?_, ⟨⟨_, rfl⟩, rfl⟩⟩
        simp only [L_divided_3, stD, Ss.ev, S.ev, Hs.ev, E.ev, Es.ev, T.ev, Pt.put, Pts.put, Pts.len, Es.len, Oe.ev, It.ev, bind_ok, bind_err, bind_bad, th_ok, th_err, th_bad, nxth, retth, errth, badth, noerr_ok, fin_nx, fin_ret, fin_err, tidy_same, tidyX_same, List.getElem?_cons_zero, List.getElem?_cons_succ, List.set_cons_zero, List.set_cons_succ, add_int, e0, i1, i2, bin_mul', m1, aug_sub, se]) w 0 (stD W lows h.length (some (.int t)) (some (.int (s : Int))) x6) (hpD h r q) ⟨⟨_, rfl⟩, by rw [stepL_zero]⟩ (Nat.zero_le _) (by omega)
  exact ⟨x6', by rw [l1, l2, l3]⟩
structure DInv (W lows : List Int) (b : Nat) (r q : List Int) : Prop where
  l : q.length + (r.length - lows.length) = W.length - lows.length
  m : q = [] ∨ lows.length ≤ r.length
  eq : ∀ k, gI W k = shf (r.length - lows.length) (cv q.reverse (moI lows)) k + gI r k
  rb : ∀ x ∈ r, Bd (b + 6 * q.length) x
  qb : ∀ x ∈ q, Bd (b + 6 * q.length) x
  le : r.length ≤ W.length
theorem DInv.step {W lows r q : List Int} {b s : Nat} (i : DInv W lows b r q) (hs : r.length = s + 1 + lows.length) (bl : ∀ x ∈ lows, Bd 5 x) :
    DInv W lows b (stepL r.dropLast lows (gI r (r.length - 1)) (r.length - 1) s lows.length) (q ++ [gI r (r.length - 1)]) := by
  have ht : Bd (b + 6 * q.length) (gI r (r.length - 1)) := gI_mem (P := Bd _) i.rb (bd0 _) _
  have lq : (q ++ [gI r (r.length - 1)]).length = q.length + 1 := by simp
  have l1 := i.l
  have l2 := i.le
  refine ⟨by rw [lq, stepL_len]; omega, .inr (by rw [stepL_len]; omega), fun k => ?_, fun x hx => ?_, fun x hx => ?_, by rw [stepL_len]; omega⟩
  · rw [List.reverse_append, i.eq k, stepL_len]
    show _ = shf (r.length - 1 - lows.length) (cv (gI r (r.length - 1) :: q.reverse) (moI lows)) k + _
    rw [show r.length - 1 - lows.length = s by omega, show r.length - lows.length = s + 1 by omega, shf_step, step_coef r lows s hs k]
    omega
  · rw [lq]
    exact (step_bd i.rb bl _ ht _ _ _ x hx).mono (by omega)
  · rw [lq]
    rcases List.mem_append.mp hx with z | z
    · exact (i.qb x z).mono (by omega)
    · have : x = gI r (r.length - 1) := by simpa using z
      rw [this]
      exact ht.mono (by omega)
theorem div_go (d : Nat) (W lows : List Int) (b : Nat) (hW : W.length ≤ 30) (hl : lows.length ≤ 30) (hb : b ≤ 100) (hw : 1000 < w) (bl : ∀ x ∈ lows, Bd 5 x) : ∀ (f : Nat) (r q : List Int) (y4 y5 y6 : Option C), DInv W lows b r q → r.length < f →
      ∃ r' q' x4 x5 x6, whileF (T.ev (run fns sub w d) sub w none T_divided_1) (Ss.ev (run fns sub w d) sub w L_divided_4 none) f (stD W lows h.length y4 y5 y6) (hpD h r q) = .nx (stD W lows h.length x4 x5 x6) (hpD h r' q') ∧ DInv W lows b r' q' ∧ r'.length ≤ lows.length := by
  have ol : (lows ++ [1]).length = lows.length + 1 := by simp
  have lo : ∀ h', bi .len [tZ (lows ++ [1])] h' = .ok (.int ((lows.length : Int) + 1)) h' := fun h' => by rw [len_tZ, ol]; rfl
  intro f
  induction f with
  | zero => intro r q y4 y5 y6 _ hf; omega
  | succ f ih =>
    intro r q y4 y5 y6 hi hf
    have lr : bi .len [.ref h.length] (hpD h r q) = .ok (.int r.length) (hpD h r q) := len_refI (hpD0 r q)
    by_cases hc : r.length ≤ lows.length
    · refine ⟨r, q, y4, y5, y6, while_end (h1 := hpD h r q) ?_, hi, hc⟩
      have : ¬ ((lows.length : Int) + 1 ≤ (r.length : Int)) := by omega
      simp only [T_divided_1, stD, Ss.ev, S.ev, Hs.ev, E.ev, Es.ev, T.ev, Pt.put, Pts.put, Pts.len, Es.len, Oe.ev, It.ev, bind_ok, bind_err, bind_bad, th_ok, th_err, th_bad, nxth, retth, errth, badth, noerr_ok, fin_nx, fin_ret, fin_err, tidy_same, tidyX_same, List.getElem?_cons_zero, List.getElem?_cons_succ, List.set_cons_zero, List.set_cons_succ, lr, lo, ge_i, this, decide_false]
    · obtain ⟨s, hs⟩ : ∃ s, r.length = s + 1 + lows.length := ⟨r.length - 1 - lows.length, by omega⟩
      have inew := hi.step hs bl
      have hle := hi.le
      have hll := hi.l
      have ht : Bd 400 (gI r (r.length - 1)) := (gI_mem (P := Bd _) hi.rb (bd0 _) _).mono (by omega)
      have dl : r.dropLast.length = s + lows.length := by rw [dl_len]; omega
      have dl' : r.length - 1 = r.dropLast.length := by rw [dl_len]
      have p1 := fun y4 y5 y6 => item_pop (fns := fns) (sub := sub) (w := w) (d := d) (sl := stD W lows h.length y4 y5 y6) (i := 2) (h := hpD h r q) rfl (hpD0 r q) (by omega)
      rw [hpS0] at p1
      generalize htt : gI r (r.length - 1) = t at ht inew p1
      obtain ⟨x6', il⟩ := div_inner (fns := fns) (sub := sub) (h := h) d W lows hl hw bl r.dropLast (q ++ [t]) t s y6 dl ht
      rw [dl'] at inew
      obtain ⟨r2, q2, x4, x5, x6, w1, w2, w3⟩ := ih _ (q ++ [t]) (some (.int t)) (some (.int (s : Int))) x6' inew (by rw [stepL_len]; omega)
      refine ⟨r2, q2, x4, x5, x6, ?_, w2, w3⟩
      rw [← w1]
      refine while_go (h1 := hpD h r q) ?_ ?_
      · have : (lows.length : Int) + 1 ≤ (r.length : Int) := by omega
        simp only [T_divided_1, stD, Ss.ev, S.ev, Hs.ev, E.ev, Es.ev, T.ev, Pt.put, Pts.put, Pts.len, Es.len, Oe.ev, It.ev, bind_ok, bind_err, bind_bad, th_ok, th_err, th_bad, nxth, retth, errth, badth, noerr_ok, fin_nx, fin_ret, fin_err, tidy_same, tidyX_same, List.getElem?_cons_zero, List.getElem?_cons_succ, List.set_cons_zero, List.set_cons_succ, lr, lo, ge_i, this, decide_true]
      · have p2 : item (tZ (lows ++ [1])) (.int (-1)) (hpD h r.dropLast q) = .ok (.int 1) (hpD h r.dropLast q) := by
          rw [item_last (seq_tZ _ _) (by omega), gI_monic, ol]
          unfold moI
          rw [if_neg (by omega), if_pos (by omega)]
        have p3 := fun (y5 y6 : Option C) => app_ev (fns := fns) (sub := sub) (w := w) (d := d) (sl := stD W lows h.length (some (.int t)) y5 y6) (i := 3) (j := 4) (h := hpD h r.dropLast q) rfl rfl (hpD1 r.dropLast q) (by omega)
        rw [hpS1] at p3
        have p4 : divC (.int t) (.int 1) (hpD h r.dropLast q) = .ok (.int t) (hpD h r.dropLast q) := by
          rw [div_of (b := 1) (by decide) (Nat.lt_of_sub_ne_zero (by decide)) (by decide), Int.fdiv_one]
        have lr2 : bi .len [.ref h.length] (hpD h r.dropLast (q ++ [t])) = .ok (.int ((s + lows.length : Nat) : Int)) (hpD h r.dropLast (q ++ [t])) := by rw [len_refI (hpD0 _ _), dl]
        have e5 : ((s + lows.length : Nat) : Int) - ((lows.length : Int) + 1) + 1 = (s : Int) := by omega
        have e6 : (lows.length : Int) + 1 - 1 = (lows.length : Int) := by omega
        have e7 : -1000000000 < (lows.length : Int) ∧ (lows.length : Int) < 1000000000 := by omega
        unfold L_divided_4
        rw [ss_cons]
        have q1 : S.ev (run fns sub w d) sub w (.asg (.v 4) (.bin .div (.pop (.var 2)) (.idx (.var 1) (.neg (.con (.int 1)))))) none (stD W lows h.length y4 y5 y6) (hpD h r q) = .nx (stD W lows h.length (some (.int t)) y5 y6) (hpD h r.dropLast q) := by
          rw [S.ev, E.ev, p1]
          simp only [stD, Ss.ev, S.ev, Hs.ev, E.ev, Es.ev, T.ev, Pt.put, Pts.put, Pts.len, Es.len, Oe.ev, It.ev, bind_ok, bind_err, bind_bad, th_ok, th_err, th_bad, nxth, retth, errth, badth, noerr_ok, fin_nx, fin_ret, fin_err, tidy_same, tidyX_same, List.getElem?_cons_zero, List.getElem?_cons_succ, List.set_cons_zero, List.set_cons_succ, p2, bin_div', p4]
        rw [q1, nxth, ss_cons, p3, nxth, ss_cons]
        have q2 : S.ev (run fns sub w d) sub w (.asg (.v 5) (.bin .add (.bin .sub (.bi .len (.cons (.var 2) .nil)) (.bi .len (.cons (.var 1) .nil))) (.con (.int 1)))) none (stD W lows h.length (some (.int t)) y5 y6) (hpD h r.dropLast (q ++ [t])) = .nx (stD W lows h.length (some (.int t)) (some (.int (s : Int))) y6) (hpD h r.dropLast (q ++ [t])) := by
          simp only [stD, Ss.ev, S.ev, Hs.ev, E.ev, Es.ev, T.ev, Pt.put, Pts.put, Pts.len, Es.len, Oe.ev, It.ev, bind_ok, bind_err, bind_bad, th_ok, th_err, th_bad, nxth, retth, errth, badth, noerr_ok, fin_nx, fin_ret, fin_err, tidy_same, tidyX_same, List.getElem?_cons_zero, List.getElem?_cons_succ, List.set_cons_zero, List.set_cons_succ, lr2, lo, sub_int, add_int, e5]
        rw [q2, nxth, ss_cons]
        have ei : It.ev (run fns sub w d) sub w none (.rng1 (.bin .sub (.bi .len (.cons (.var 1) .nil)) (.con (.int 1)))) (stD W lows h.length (some (.int t)) (some (.int (s : Int))) y6) (hpD h r.dropLast (q ++ [t])) = .ok (.rng 0 lows.length) (hpD h r.dropLast (q ++ [t])) := it_rng1 (by simp only [stD, Ss.ev, S.ev, Hs.ev, E.ev, Es.ev, T.ev, Pt.put, Pts.put, Pts.len, Es.len, Oe.ev, It.ev, bind_ok, bind_err, bind_bad, th_ok, th_err, th_bad, nxth, retth, errth, badth, noerr_ok, fin_nx, fin_ret, fin_err, tidy_same, tidyX_same, List.getElem?_cons_zero, List.getElem?_cons_succ, List.set_cons_zero, List.set_cons_succ, lo, sub_int, e6]) (by omega)
        rw [S.ev, ei, th_ok, il, nxth, ss_nil]
/-- what a division leaves, and how great its numbers are -/
structure Dv (W lows : List Int) (b : Nat) (q r : List Int) : Prop where
  ql : q.length = W.length - lows.length
  rl : r.length ≤ lows.length
  eq : ∀ k, gI W k = cv q (moI lows) k + gI r k
  qb : ∀ x ∈ q, Bd (b + 6 * q.length) x
  rb : ∀ x ∈ r, Bd (b + 6 * q.length) x
theorem divided_run {i j : Nat} (e : fns i = some (F_divided j)) (e1 : fns j = some F_trimmed) (hw : 1000 < w) (d : Nat) (cl : ClH h) (W lows : List Int) (b : Nat) (hW : W.length ≤ 30) (hl : lows.length ≤ 30) (hb : b ≤ 100) (bW : ∀ x ∈ W, Bd b x) (bl : ∀ x ∈ lows, Bd 5 x) :
    ∃ q r, Dv W lows b q r ∧ run fns sub w (d + 2) i [tZ W, tZ (lows ++ [1])] h = .ok (.tup [tZ q, tZ (trimZ r)]) h := by
  have i0 : DInv W lows b W [] := ⟨by simp, .inl rfl, fun k => by simp [shf, cv], by simpa using bW, fun x hx => (by cases hx), Nat.le_refl _⟩
  obtain ⟨r, q, x4, x5, x6, w1, i1, w3⟩ := div_go (fns := fns) (sub := sub) (h := h) (d + 1) W lows b hW hl hb hw bl w W [] none none none i0 (by omega)
  refine ⟨q.reverse, r, ⟨?_, w3, fun k => ?_, ?_, ?_⟩, ?_⟩
  · have := i1.l
    rw [List.length_reverse]; omega
  · have := i1.eq k
    rw [show r.length - lows.length = 0 by omega] at this
    rw [this]
    unfold shf
    rw [if_neg (by omega)]; rfl
  · intro x hx
    rw [List.length_reverse]
    exact i1.qb x (List.mem_reverse.mp hx)
  · intro x hx
    rw [List.length_reverse]
    exact i1.rb x hx
  · rw [un e _ _ _ rfl (of_decide_eq_true rfl)]
    have c1 : C.unders (h.length + 1) (iZ r) = true := iZ_unders _ _
    have c2 : ClH (hpD h r q) := by
      have a := cl_push (cl_push cl (xs := iZ r) (iZ_unders _ _)) (xs := iZ q) (iZ_unders _ _)
      simpa [hpD] using a
    have c3 : ClH (hpD h r q ++ [iZ q.reverse]) := cl_push c2 (iZ_unders _ _)
    have w1' : whileF (T.ev (run fns sub w (d + 1)) sub w none T_divided_1) (Ss.ev (run fns sub w (d + 1)) sub w L_divided_4 none) w [some (tZ W), some (tZ (lows ++ [1])), some (C.ref h.length), some (C.ref (h.length + 1)), none, none, none] (h ++ [iZ W] ++ [[]]) = .nx (stD W lows h.length x4 x5 x6) (hpD h r q) := by
      rw [← w1]
      simp [stD, hpD, iZ]
    have t1 := trimmed_run (sub := sub) (w := w) e1 d h.length (hpD h r q ++ [iZ q.reverse]) r (by rw [List.getElem?_append_left (by simp [hpD])]; exact hpD0 r q) c3 (by omega)
    have l1 : (h ++ [iZ W]).length = h.length + 1 := by simp
    have l0 : ([] : List C).length ≤ lineN := by decide
    have g1 : (hpD h r q)[h.length + 1]? = some (iZ q) := hpD1 r q
    have l2 : ([tZ q.reverse, tZ (trimZ r)] : List C).length ≤ lineN := by show 2 ≤ lineN; decide
    simp only [F_divided, List.map_cons, List.map_nil, List.replicate, List.cons_append, List.nil_append, Nat.reduceSub, ss_cons, ss_nil]
    simp only [Ss.ev, S.ev, Hs.ev, E.ev, Es.ev, T.ev, Pt.put, Pts.put, Pts.len, Es.len, Oe.ev, It.ev, bind_ok, bind_err, bind_bad, th_ok, th_err, th_bad, nxth, retth, errth, badth, noerr_ok, fin_nx, fin_ret, fin_err, tidy_same, tidyX_same, List.getElem?_cons_zero, List.getElem?_cons_succ, List.set_cons_zero, List.set_cons_succ, list_of (seq_tZ h W), l1, if_pos l0, w1', stD, g1]
    simp only [Ss.ev, S.ev, Hs.ev, E.ev, Es.ev, T.ev, Pt.put, Pts.put, Pts.len, Es.len, Oe.ev, It.ev, bind_ok, bind_err, bind_bad, th_ok, th_err, th_bad, nxth, retth, errth, badth, noerr_ok, fin_nx, fin_ret, fin_err, tidy_same, tidyX_same, List.getElem?_cons_zero, List.getElem?_cons_succ, List.set_cons_zero, List.set_cons_succ, iZ_rev, tuple_ref (last_get (hpD h r q) _), t1, if_pos l2]
    have := tidy_cl cl (.tup [tZ q.reverse, tZ (trimZ r)]) ([iZ r, iZ q] ++ [iZ q.reverse]) (by
      show (C.unders _ (iZ _) && (C.unders _ (iZ _) && true)) = true
      rw [iZ_unders, iZ_unders]; rfl)
    rw [← List.append_assoc] at this
    exact this
end
end
end Sh
set_option linter.all false
set_option autoImplicit false
set_option maxRecDepth 100000
set_option maxHeartbeats 4000000
/-! Sh, part X: what is told of products and rests. -/
namespace Sh
open PySem
/-- the sum of the first n numbers, each led by its place -/
def cvF (f : Nat → Int) (o : Nat → Int) (k : Nat) : Nat → Int
  | 0 => 0
  | n + 1 => cvF f o k n + f n * shf n o k
theorem gI_cons (x : Int) (xs : List Int) (k : Nat) : gI (x :: xs) k = if k = 0 then x else gI xs (k - 1) := by
  cases k with
  | zero => rfl
  | succ k => simp [gI, List.getD]
theorem cvF_succ (x : Int) (xs : List Int) (o : Nat → Int) (k : Nat) : ∀ n, cvF (gI (x :: xs)) o k (n + 1) = x * o k + (if k = 0 then 0 else cvF (gI xs) o (k - 1) n)
  | 0 => by
    show 0 + gI (x :: xs) 0 * shf 0 o k = _
    rw [gI_cons, if_pos rfl]
    unfold shf
    rw [if_neg (by omega)]
    split <;> simp [cvF]
  | n + 1 => by
    show cvF (gI (x :: xs)) o k (n + 1) + gI (x :: xs) (n + 1) * shf (n + 1) o k = _
    rw [cvF_succ x xs o k n, gI_cons, if_neg (show ¬ n + 1 = 0 by omega)]
    show _ = x * o k + (if k = 0 then 0 else cvF (gI xs) o (k - 1) n + gI xs n * shf n o (k - 1))
    unfold shf
    by_cases h : k = 0
    · rw [if_pos h, if_pos h, if_pos (show k < n + 1 by omega)]; simp
    · rw [if_neg h, if_neg h]
      rw [show n + 1 - 1 = n by omega]
      by_cases h2 : k < n + 1
      · rw [if_pos h2, if_pos (show k - 1 < n by omega)]; omega
      · rw [if_neg h2, if_neg (show ¬ k - 1 < n by omega), show k - (n + 1) = k - 1 - n by omega]; omega
theorem cv_cvF (o : Nat → Int) : ∀ (xs : List Int) (k : Nat), cv xs o k = cvF (gI xs) o k xs.length
  | [], k => rfl
  | x :: xs, k => by
    show x * o k + (if k = 0 then 0 else cv xs o (k - 1)) = _
    rw [List.length_cons, cvF_succ]
    split
    · rfl
    · rw [cv_cvF o xs]
theorem cvF_add (f : Nat → Int) (o : Nat → Int) (k n : Nat) : ∀ j, (∀ a, n ≤ a → f a = 0) → cvF f o k (n + j) = cvF f o k n
  | 0, _ => rfl
  | j + 1, h => by
    show cvF f o k (n + j) + f (n + j) * shf (n + j) o k = _
    rw [cvF_add f o k n j h, h _ (by omega)]; simp
theorem cv_at (o : Nat → Int) (xs : List Int) (k n : Nat) (h : xs.length ≤ n) : cv xs o k = cvF (gI xs) o k n := by
  rw [cv_cvF, show n = xs.length + (n - xs.length) by omega, cvF_add _ _ _ _ _ (fun a ha => getD_big ha)]
theorem cvF_sub (f g : Nat → Int) (o : Nat → Int) (k : Nat) : ∀ n, cvF (fun a => f a - g a) o k n = cvF f o k n - cvF g o k n
  | 0 => rfl
  | n + 1 => by
    show cvF _ o k n + (f n - g n) * _ = cvF f o k n + f n * _ - (cvF g o k n + g n * _)
    rw [cvF_sub f g o k n, Int.sub_mul]; omega
theorem cvF_low (f o : Nat → Int) (m j : Nat) (ho : ∀ i, m < i → o i = 0) : ∀ n, n ≤ j → cvF f o (j + m) n = 0
  | 0, _ => rfl
  | n + 1, h => by
    show cvF f o (j + m) n + f n * shf n o (j + m) = 0
    rw [cvF_low f o m j ho n (by omega)]
    unfold shf
    rw [if_neg (by omega), ho _ (by omega)]; simp
/-- there is just one quotient -/
theorem cvF_uni (d r o : Nat → Int) (m n : Nat) (ho : ∀ i, m < i → o i = 0) (h1 : o m = 1) (hd : ∀ a, n ≤ a → d a = 0) (hr : ∀ k, m ≤ k → r k = 0) (h : ∀ k, cvF d o k n + r k = 0) : ∀ a, d a = 0 := by
  have key : ∀ j a, n - j ≤ a → d a = 0 := by
    intro j
    induction j with
    | zero => exact fun a ha => hd a (by omega)
    | succ j ih =>
      intro a ha
      by_cases hj : n - j ≤ a
      · exact ih a hj
      · have ha2 : a + 1 = n - j := by omega
        have e := h (a + m)
        rw [hr _ (by omega), show n = a + 1 + (n - (a + 1)) by omega, cvF_add d o _ (a + 1) _ (fun b hb => ih b (by omega))] at e
        have e2 : cvF d o (a + m) a + d a * shf a o (a + m) + 0 = 0 := e
        rw [cvF_low d o m a ho a (Nat.le_refl _)] at e2
        unfold shf at e2
        rw [if_neg (by omega), show a + m - a = m by omega, h1] at e2
        omega
  exact fun a => key n a (by omega)
theorem mo_big (lows : List Int) (i : Nat) (h : lows.length < i) : moI lows i = 0 := by
  unfold moI
  rw [if_neg (by omega), if_neg (by omega)]
theorem mo_top (lows : List Int) : moI lows lows.length = 1 := by
  unfold moI
  rw [if_neg (by omega), if_pos rfl]
theorem div_uni {q q' r r' lows : List Int} (hr : r.length ≤ lows.length) (hr' : r'.length ≤ lows.length) (h : ∀ k, cv q (moI lows) k + gI r k = cv q' (moI lows) k + gI r' k) : (∀ a, gI q a = gI q' a) ∧ ∀ k, gI r k = gI r' k := by
  have hq : ∀ a, gI q a - gI q' a = 0 := by
    refine cvF_uni (fun a => gI q a - gI q' a) (fun k => gI r k - gI r' k) (moI lows) lows.length (max q.length q'.length) (mo_big lows) (mo_top lows) (fun a ha => ?_) (fun k hk => ?_) (fun k => ?_)
    · show gI q a - gI q' a = 0
      rw [getD_big (by omega), getD_big (by omega)]; rfl
    · show gI r k - gI r' k = 0
      rw [getD_big (by omega), getD_big (by omega)]; rfl
    · rw [cvF_sub, ← cv_at _ _ _ _ (Nat.le_max_left _ _), ← cv_at _ _ _ _ (Nat.le_max_right _ _)]
      have := h k
      omega
  have hq' : ∀ a, gI q a = gI q' a := fun a => by have := hq a; omega
  refine ⟨hq', fun k => ?_⟩
  have e := h k
  rw [cv_at _ _ _ _ (Nat.le_max_left q.length q'.length), cv_at _ _ _ _ (Nat.le_max_right q.length q'.length)] at e
  rw [show gI q = gI q' from funext hq'] at e
  omega
theorem cvF_high (f o : Nat → Int) (m n k : Nat) (ho : ∀ i, m < i → o i = 0) (hk : n + m ≤ k) : cvF f o k n = 0 := by
  have := cvF_low f o m (k - m) ho n (by omega)
  rwa [show k - m + m = k by omega] at this
theorem cv_high (xs : List Int) (o : Nat → Int) (m k : Nat) (ho : ∀ i, m < i → o i = 0) (hk : xs.length + m ≤ k) : cv xs o k = 0 := by
  rw [cv_cvF]; exact cvF_high _ _ m _ _ ho hk
/-- a quotient of a row with a head has a head -/
theorem Dv.trim {W lows q r : List Int} {b : Nat} (D : Dv W lows b q r) (hW : Trim W) : Trim q := by
  by_cases hq : q.length = 0
  · exact .inl (List.eq_nil_of_length_eq_zero hq)
  · right
    have l := D.ql
    rcases hW with rfl | hW
    · simp at l; exact absurd (by rw [l]; rfl) hq
    · have e := D.eq (W.length - 1)
      rw [getD_big (show r.length ≤ W.length - 1 by have := D.rl; omega), cv_cvF] at e
      have hl : q.length = (q.length - 1) + 1 := by omega
      rw [hl] at e
      have e2 : gI W (W.length - 1) = cvF (gI q) (moI lows) (W.length - 1) (q.length - 1) + gI q (q.length - 1) * shf (q.length - 1) (moI lows) (W.length - 1) + 0 := e
      rw [show W.length - 1 = (q.length - 1) + lows.length by omega, cvF_low _ _ lows.length _ (mo_big lows) _ (Nat.le_refl _)] at e2
      unfold shf at e2
      rw [if_neg (by omega), show q.length - 1 + lows.length - (q.length - 1) = lows.length by omega, mo_top] at e2
      rw [show W.length - 1 = (q.length - 1) + lows.length by omega] at hW
      intro z
      rw [z] at e2
      exact hW (by rw [e2]; rfl)
/-- a comprehension's and [0]'s greatest -/
theorem maxI_spec : ∀ (r : List Int) (x : Int), maxI x r ∈ x :: r ∧ ∀ y ∈ x :: r, y ≤ maxI x r
  | [], x => ⟨by simp [maxI], fun y hy => by simp at hy; rw [hy]; exact Int.le_refl _⟩
  | z :: r, x => by
    obtain ⟨h1, h2⟩ := maxI_spec r (if x < z then z else x)
    refine ⟨?_, fun y hy => ?_⟩
    · show maxI (if x < z then z else x) r ∈ _
      rcases List.mem_cons.mp h1 with e | e
      · rw [e]; split <;> simp
      · simp [e]
    · show y ≤ maxI (if x < z then z else x) r
      have h3 := h2 (if x < z then z else x) (by simp)
      generalize hM : maxI (if x < z then z else x) r = M at h2 h3
      rcases List.mem_cons.mp hy with e | e
      · rw [e]; split at h3 <;> omega
      · rcases List.mem_cons.mp e with e | e
        · rw [e]; split at h3 <;> omega
        · exact h2 y (by simp [e])
theorem max_ref {h : Hc} {n : Nat} {xs : List Int} (e : h[n]? = some (iZ xs)) (hx : xs ≠ []) : ∃ m, bi .maxL [.ref n] h = .ok (.int m) h ∧ m ∈ xs ∧ ∀ y ∈ xs, y ≤ m := by
  match xs, hx with
  | x :: r, _ =>
    obtain ⟨h1, h2⟩ := maxI_spec r x
    refine ⟨maxI x r, ?_, h1, h2⟩
    show (match (h[n]?).bind intsC with
      | some (x :: r) => R.ok (C.int (maxI x r)) h
      | _ => .bad) = _
    rw [e]
    show (match intsC (iZ (x :: r)) with
      | some (x :: r) => R.ok (C.int (maxI x r)) h
      | _ => .bad) = _
    rw [iZ_iZ]
end Sh
set_option linter.all false
set_option autoImplicit false
set_option maxRecDepth 100000
set_option maxHeartbeats 8000000
/-! Sh, part W: pots that numbers are drawn from; rows drawn. -/
namespace Sh
open PySem
def Pot (L : List C) : Prop := ∃ p0 p1 : Int, L = [.int p0, .int p1] ∧ 0 ≤ p1 ∧ p1 < 2147483648
def PotAt (h : Hc) (n : Nat) : Prop := ∃ L, h[n]? = some L ∧ Pot L
def Nx (n : Nat) (h h' : Hc) : Prop := h' = h ∨ ∃ L, h' = h.set n L ∧ Pot L
theorem PotAt.lt {h : Hc} {n : Nat} (p : PotAt h n) : n < h.length := by
  obtain ⟨L, e, _⟩ := p
  exact (List.getElem?_eq_some_iff.mp e).1
theorem Nx.refl (n : Nat) (h : Hc) : Nx n h h := .inl rfl
theorem Nx.len {n : Nat} {h h' : Hc} (x : Nx n h h') : h'.length = h.length := by
  rcases x with rfl | ⟨L, rfl, _⟩
  · rfl
  · simp
theorem Nx.pot {n : Nat} {h h' : Hc} (x : Nx n h h') (p : PotAt h n) : PotAt h' n := by
  rcases x with rfl | ⟨L, rfl, q⟩
  · exact p
  · exact ⟨L, List.getElem?_set_self p.lt, q⟩
theorem Nx.trans {n : Nat} {h h' h2 : Hc} (x : Nx n h h') (y : Nx n h' h2) : Nx n h h2 := by
  rcases y with rfl | ⟨L, rfl, q⟩
  · exact x
  · rcases x with rfl | ⟨M, rfl, _⟩
    · exact .inr ⟨L, rfl, q⟩
    · exact .inr ⟨L, by rw [List.set_set], q⟩
theorem Pot.under {L : List C} (p : Pot L) (n : Nat) : C.unders n L = true := by
  obtain ⟨a, b, rfl, _⟩ := p
  rfl
theorem Nx.closed {n : Nat} {h h' : Hc} (x : Nx n h h') (cl : ClH h) : ClH h' := by
  rcases x with rfl | ⟨L, rfl, q⟩
  · exact cl
  · exact cl_set cl (q.under _)
theorem Nx.get {n m : Nat} {h h' : Hc} (x : Nx n h h') (hm : m ≠ n) : h'[m]? = h[m]? := by
  rcases x with rfl | ⟨L, rfl, q⟩
  · rfl
  · rw [List.getElem?_set_ne (fun z => hm z.symm)]
theorem Nx.app {n : Nat} {h h' : Hc} (x : Nx n h h') (hn : n < h.length) (t : Hc) : Nx n (h ++ t) (h' ++ t) := by
  rcases x with rfl | ⟨L, rfl, q⟩
  · exact .inl rfl
  · exact .inr ⟨L, by rw [List.set_append_left _ _ hn], q⟩
theorem PotAt.app {n : Nat} {h : Hc} (p : PotAt h n) (t : Hc) : PotAt (h ++ t) n := by
  obtain ⟨L, e, q⟩ := p
  exact ⟨L, by rw [List.getElem?_append_left (List.getElem?_eq_some_iff.mp e).1]; exact e, q⟩
theorem tidy_len {h h1 : Hc} (e : h1.length = h.length) (c : C) : tidy h.length c h1 = .ok c h1 := by
  rw [← e]
  exact tidy_same h1 c
theorem tidy_ref {h h1 : Hc} {n : Nat} (e : h.length ≤ n) : tidy h.length (.ref n) h1 = .ok (.ref n) h1 := by
  unfold tidy
  rw [show C.under h.length (.ref n) = false from decide_eq_false (by omega)]
  rfl
theorem itr0 {h : Hc} {n : Nat} {x y : C} (e : h[n]? = some [x, y]) : item (.ref n) (.int 0) h = .ok x h := item_of (seq_ref e) (j := 0) rfl rfl
theorem itr1 {h : Hc} {n : Nat} {x y : C} (e : h[n]? = some [x, y]) : item (.ref n) (.int 1) h = .ok y h := item_of (seq_ref e) (j := 1) rfl rfl
theorem sei0 {h : Hc} {n : Nat} {x y z : C} (e : h[n]? = some [x, y]) : setitem (.ref n) (.int 0) z h = .ok () (h.set n [z, y]) := by
  show (match h[n]? with
    | some xs => match ixC xs.length 0 with
      | some j => R.ok () (h.set n (xs.set j z))
      | none => .bad
    | none => .bad) = _
  rw [e]
  rfl
theorem sei1 {h : Hc} {n : Nat} {x y z : C} (e : h[n]? = some [x, y]) : setitem (.ref n) (.int 1) z h = .ok () (h.set n [x, z]) := by
  show (match h[n]? with
    | some xs => match ixC xs.length 1 with
      | some j => R.ok () (h.set n (xs.set j z))
      | none => .bad
    | none => .bad) = _
  rw [e]
  rfl
theorem fmod_b (i : Int) {j : Int} (h : 0 < j) : 0 ≤ i.fmod j ∧ i.fmod j < j := ⟨Int.fmod_nonneg_of_pos i h, Int.fmod_lt_of_pos i h⟩
theorem divmod_int (h : Hc) (i j : Int) (h1 : 0 < j) (h2 : j < 1000000000) : bi .divmod [.int i, .int j] h = .ok (.tup [.int (i / j), .int (i % j)]) h := by
  show (if 0 < j ∧ j < 1000000000 then R.ok (C.tup [.int (i / j), .int (i % j)]) h else .bad) = _
  rw [if_pos ⟨h1, h2⟩]
/-- a def that draws -/
def DrawOk (fns : Nat → Option Fn) (sub : Nat → Str → Option Bool) (w j : Nat) : Prop := ∀ (d : Nat) (h : Hc) (n : Nat) (many : Int), PotAt h n → 0 < many → many < 1000000000 → ∃ dg h', 0 ≤ dg ∧ dg < many ∧ Nx n h h' ∧ run fns sub w (d + 1) j [.ref n, .int many] h = .ok (.int dg) h'
section
variable {fns : Nat → Option Fn} {sub : Nat → Str → Option Bool} {w : Nat}
def C_law_cut_1 : E := (.bin .add (.var 2) (.con (.int 1)))
def P_law_cut_2 : Pt := (.v 2)
def T_law_cut_3 : T := (.cmp .ne (.idx (.var 0) (.var 2)) (.con (.int 0)))
def F_law_cut : Fn := ⟨3, 1, (.cons (.asg (.v 1) (.bi .maxL (.cons (.bin .add (.comp C_law_cut_1 P_law_cut_2 (.rng1 (.bi .len (.cons (.var 0) .nil))) T_law_cut_3) (.lst (.cons (.con (.int 0)) .nil))) .nil))) (.cons (.ret (.bi .tuple (.cons (.slc (.var 0) .none (.some (.var 1))) .nil))) .nil))⟩
def C_law_row_1 (j_law_draw : Nat) : E := (.bin .sub (.call j_law_draw (.cons (.var 0) (.cons (.bin .add (.bin .mul (.con (.int 2)) (.var 2)) (.con (.int 1))) .nil))) (.var 2))
def P_law_row_2 : Pt := (.v 3)
def F_law_row (j_law_draw : Nat) : Fn := ⟨4, 3, (.cons (.ret (.comp (C_law_row_1 j_law_draw) P_law_row_2 (.rng1 (.var 1)) .yes)) .nil)⟩

theorem row_run {i j : Nat} (e : fns i = some (F_law_row j)) (dr : DrawOk fns sub w j) (hw : 1000 < w) (d : Nat) (h : Hc) (n : Nat) (p : PotAt h n) (long : Nat) (size : Nat) (hl : long ≤ 100) (hs : size ≤ 10000000) :
    ∃ xs h', Nx n h h' ∧ xs.length = long ∧ (∀ x ∈ xs, x.natAbs ≤ size) ∧ run fns sub w (d + 2) i [.ref n, .int (long : Int), .int (size : Int)] h = .ok (.ref h.length) (h' ++ [iZ xs]) := by
  rw [un e _ _ _ rfl (of_decide_eq_true rfl)]
  have m1 := mul_of (i := 2) (j := (size : Int)) (bd_small (by omega) (by omega)) (bd_small (by omega) (by omega)) (by decide) (by decide)
  obtain ⟨acc, h', c1, h'x, xs, c2, c3, c4⟩ := compF_gen (it := .rng 0 long) (n := long) (el := fun i => .int (0 + (i : Int))) (g := Pt.put (run fns sub w (d + 1)) sub w none P_law_row_2) (t := T.ev (run fns sub w (d + 1)) sub w none .yes) (e := E.ev (run fns sub w (d + 1)) sub w none (C_law_row_1 j)) (sl := [some (.ref n), some (.int (long : Int)), some (.int (size : Int)), none])
    (fun i acc h' => Nx n h h' ∧ ∃ xs : List Int, acc = iZ xs ∧ xs.length = i ∧ ∀ x ∈ xs, x.natAbs ≤ size) (fun _ _ _ _ _ => rfl) (fun i acc h' ⟨a1, xs, a2, a3, a4⟩ hi => by
      obtain ⟨dg, h2, b1, b2, b3, b4⟩ := dr d h' n (2 * (size : Int) + 1) (a1.pot p) (by omega) (by omega)
      refine ⟨[some (.ref n), some (.int (long : Int)), some (.int (size : Int)), some (.int (0 + (i : Int)))], h', true, h', rfl, rfl, (fun z => by cases z), fun _ => ⟨by rw [a2, iZ_len, a3]; exact Nat.lt_trans (show i < 1000 by omega) (by decide), .int (dg - (size : Int)), h2, ?_, a1.trans b3, xs ++ [dg - (size : Int)], ?_, ?_, ?_⟩⟩
      · simp only [C_law_row_1, Ss.ev, S.ev, Hs.ev, E.ev, Es.ev, T.ev, Pt.put, Pts.put, Pts.len, Es.len, Oe.ev, It.ev, bind_ok, bind_err, bind_bad, th_ok, th_err, th_bad, nxth, retth, errth, badth, noerr_ok, fin_nx, fin_ret, fin_err, tidy_same, tidyX_same, List.getElem?_cons_zero, List.getElem?_cons_succ, List.set_cons_zero, List.set_cons_succ, bin_mul', m1, add_int, b4, sub_int]
      · rw [a2, iZ_app]; rfl
      · simp [a3]
      · intro x hx
        rcases List.mem_append.mp hx with z | z
        · exact a4 x z
        · have : x = dg - (size : Int) := by simpa using z
          omega) w 0 [] h ⟨.inl rfl, [], rfl, rfl, by simp⟩ (Nat.zero_le _) (by omega)
  refine ⟨xs, h', h'x, c3, c4, ?_⟩
  have ei : It.ev (run fns sub w (d + 1)) sub w none (.rng1 (.var 1)) [some (.ref n), some (.int (long : Int)), some (.int (size : Int)), none] h = .ok (.rng 0 long) h := it_rng1 rfl (by omega)
  simp only [F_law_row, List.map_cons, List.map_nil, List.replicate, List.cons_append, List.nil_append, Nat.reduceSub, ss_cons, ss_nil]
  rw [S.ev, E.ev, ei, bind_ok]
  rw [show Pt.wipe P_law_row_2 [some (.ref n), some (.int (long : Int)), some (.int (size : Int)), none] = [some (.ref n), some (.int (long : Int)), some (.int (size : Int)), none] from rfl]
  rw [show compF (ItV.rng 0 long) (fun c sl h => Pt.put (run fns sub w (d + 1)) sub w none P_law_row_2 c sl h) (fun sl h => T.ev (run fns sub w (d + 1)) sub w none .yes sl h) (fun sl h => E.ev (run fns sub w (d + 1)) sub w none (C_law_row_1 j) sl h) w 0 [some (.ref n), some (.int (long : Int)), some (.int (size : Int)), none] [] h = _ from c1]
  rw [noerr_ok, bind_ok, th_ok, retth, fin_ret, h'x.len, c2]
  exact tidy_ref (Nat.le_refl _)
theorem cut_ok {xs : List Int} {m : Int} {ys : List Int} (hy : ys = ((List.range xs.length).filter fun k => gI xs k != 0).map (fun (k : Nat) => (k : Int) + 1) ++ [0]) (h1 : m ∈ ys) (h2 : ∀ y ∈ ys, y ≤ m) : m = ((tl xs xs.length : Nat) : Int) := by
  subst hy
  have h0 : 0 ≤ m := h2 0 (by simp)
  obtain ⟨k, rfl⟩ : ∃ k : Nat, m = (k : Int) := ⟨m.toNat, by omega⟩
  have key : k = tl xs xs.length := by
    refine tl_uni ?_ (fun j hj hl => ?_) ?_
    · rcases List.mem_append.mp h1 with z | z
      · obtain ⟨a, ha, e⟩ := List.mem_map.mp z
        have := List.mem_range.mp (List.mem_filter.mp ha).1
        omega
      · have : (k : Int) = 0 := by simpa using z
        omega
    · refine Decidable.byContradiction fun hne => ?_
      have hb : (gI xs j != 0) = true := bne_iff_ne.mpr hne
      have := h2 ((j : Int) + 1) (List.mem_append_left _ (List.mem_map.mpr ⟨j, List.mem_filter.mpr ⟨List.mem_range.mpr hl, hb⟩, rfl⟩))
      omega
    · rcases List.mem_append.mp h1 with z | z
      · obtain ⟨a, ha, e⟩ := List.mem_map.mp z
        right
        have hb := (List.mem_filter.mp ha).2
        rw [show k - 1 = a by omega]
        exact bne_iff_ne.mp hb
      · have : (k : Int) = 0 := by simpa using z
        left; omega
  rw [key]
theorem cut_run {i : Nat} (e : fns i = some F_law_cut) (hw : 1000 < w) (d : Nat) (h : Hc) (cl : ClH h) (x : C) (xs : List Int) (hx : seqOf h x = some (iZ xs)) (hk : x = tZ xs ∨ ∃ n, x = .ref n) (hl : xs.length ≤ 400) :
    run fns sub w (d + 1) i [x] h = .ok (tZ (trimZ xs)) h := by
  rw [un e _ _ _ rfl (of_decide_eq_true rfl)]
  obtain ⟨acc, h', c1, rfl, c2⟩ := compF_gen (it := .rng 0 xs.length) (n := xs.length) (el := fun i => .int (0 + (i : Int))) (g := Pt.put (run fns sub w d) sub w none P_law_cut_2) (t := T.ev (run fns sub w d) sub w none T_law_cut_3) (e := E.ev (run fns sub w d) sub w none C_law_cut_1) (sl := [some x, none, none])
    (fun i acc h' => h' = h ∧ acc = iZ (((List.range i).filter fun k => gI xs k != 0).map (fun (k : Nat) => (k : Int) + 1))) (fun _ _ _ _ _ => rfl) (fun i acc h' ⟨a1, a2⟩ hi => by
      subst a1
      have it := item_iZI (x := x) (j := 0 + (i : Int)) i hx (by omega) hi
      refine ⟨[some x, none, some (.int (0 + (i : Int)))], h', (gI xs i != 0), h', rfl, ?_, fun z => ⟨rfl, ?_⟩, fun z => ⟨?_, .int (0 + (i : Int) + 1), h', rfl, rfl, ?_⟩⟩
      · simp only [T_law_cut_3, Ss.ev, S.ev, Hs.ev, E.ev, Es.ev, T.ev, Pt.put, Pts.put, Pts.len, Es.len, Oe.ev, It.ev, bind_ok, bind_err, bind_bad, th_ok, th_err, th_bad, nxth, retth, errth, badth, noerr_ok, fin_nx, fin_ret, fin_err, tidy_same, tidyX_same, List.getElem?_cons_zero, List.getElem?_cons_succ, List.set_cons_zero, List.set_cons_succ, it, ne_int, bne]
      · rw [a2, List.range_succ, List.filter_append]
        simp [z]
      · rw [a2, iZ_len]
        have := List.length_filter_le (fun k => gI xs k != 0) (List.range i)
        simp only [List.length_map]
        rw [List.length_range] at this
        exact Nat.lt_of_le_of_lt (show _ ≤ 400 by omega) (by decide)
      · rw [a2, List.range_succ, List.filter_append, List.filter_cons, if_pos z, List.map_append, iZ_app]
        simp [iZ]) w 0 [] h ⟨rfl, rfl⟩ (Nat.zero_le _) (by omega)
  generalize hzs : ((List.range xs.length).filter fun k => gI xs k != 0).map (fun (k : Nat) => (k : Int) + 1) = zs at c2
  have zl : zs.length ≤ 400 := by
    rw [← hzs, List.length_map]
    have := List.length_filter_le (fun k => gI xs k != 0) (List.range xs.length)
    rw [List.length_range] at this
    omega
  subst c2
  have ln : bi .len [x] h' = .ok (.int (xs.length : Int)) h' := by rw [len_of hx, iZ_len]
  have ei : It.ev (run fns sub w d) sub w none (.rng1 (.bi .len (.cons (.var 0) .nil))) [some x, none, none] h' = .ok (.rng 0 xs.length) h' := it_rng1 (by simp only [Ss.ev, S.ev, Hs.ev, E.ev, Es.ev, T.ev, Pt.put, Pts.put, Pts.len, Es.len, Oe.ev, It.ev, bind_ok, bind_err, bind_bad, th_ok, th_err, th_bad, nxth, retth, errth, badth, noerr_ok, fin_nx, fin_ret, fin_err, tidy_same, tidyX_same, List.getElem?_cons_zero, List.getElem?_cons_succ, List.set_cons_zero, List.set_cons_succ, ln]) (by omega)
  obtain ⟨m, m1, m2, m3⟩ := max_ref (h := h' ++ [iZ zs] ++ [iZ [0]] ++ [iZ (zs ++ [0])]) (n := (h' ++ [iZ zs] ++ [iZ [0]]).length) (xs := zs ++ [0]) (last_get _ _) (by simp)
  have mm : m = ((tl xs xs.length : Nat) : Int) := cut_ok (by rw [hzs]) m2 m3
  subst mm
  have ad : addC (.ref h'.length) (.ref (h' ++ [iZ zs]).length) (h' ++ [iZ zs] ++ [iZ [0]]) = .ok (.ref (h' ++ [iZ zs] ++ [iZ [0]]).length) (h' ++ [iZ zs] ++ [iZ [0]] ++ [iZ (zs ++ [0])]) := by
    have g1 : (h' ++ [iZ zs] ++ [iZ [0]])[h'.length]? = some (iZ zs) := by simp
    have g2 : (h' ++ [iZ zs] ++ [iZ [0]])[(h' ++ [iZ zs]).length]? = some (iZ [0]) := last_get _ _
    show (match (h' ++ [iZ zs] ++ [iZ [0]])[h'.length]?, (h' ++ [iZ zs] ++ [iZ [0]])[(h' ++ [iZ zs]).length]? with
      | some xs, some ys => if lineN < xs.length + ys.length then R.bad else .ok (C.ref (h' ++ [iZ zs] ++ [iZ [0]]).length) (h' ++ [iZ zs] ++ [iZ [0]] ++ [xs ++ ys])
      | _, _ => .bad) = _
    rw [g1, g2]
    show (if lineN < (iZ zs).length + (iZ [0]).length then R.bad else _) = _
    rw [if_neg (by rw [iZ_len, iZ_len]; exact Nat.not_lt.mpr (Nat.le_trans (show zs.length + 1 ≤ 500 by omega) (by decide))), iZ_app]
  have le := tl_le xs xs.length
  have cu : cutC (iZ xs) none (some ((tl xs xs.length : Nat) : Int)) = iZ (trimZ xs) := by
    rw [cut_to _ _ (by rw [iZ_len]; exact le), iZ_take]; rfl
  have fin2 : ∃ t, (slice x none (some ((tl xs xs.length : Nat) : Int)) (h' ++ [iZ zs] ++ [iZ [0]] ++ [iZ (zs ++ [0])])).bind (fun y h2 => bi .tuple [y] h2) = .ok (tZ (trimZ xs)) (h' ++ t) := by
    rcases hk with rfl | ⟨n, rfl⟩
    · refine ⟨[iZ zs] ++ [iZ [0]] ++ [iZ (zs ++ [0])], ?_⟩
      show (R.ok (C.tup (cutC (iZ xs) none (some ((tl xs xs.length : Nat) : Int)))) _).bind _ = _
      rw [cu, bind_ok]
      show R.ok (C.tup (iZ (trimZ xs))) _ = _
      simp [tZ]
    · have hn : n < h'.length := (List.getElem?_eq_some_iff.mp hx).1
      refine ⟨[iZ zs] ++ [iZ [0]] ++ [iZ (zs ++ [0])] ++ [iZ (trimZ xs)], ?_⟩
      have g : (h' ++ [iZ zs] ++ [iZ [0]] ++ [iZ (zs ++ [0])])[n]? = some (iZ xs) := by
        rw [List.append_assoc, List.append_assoc, List.getElem?_append_left hn]
        exact hx
      rw [slice_ref g, bind_ok, cu, tuple_ref (last_get _ _)]
      simp [tZ]
  obtain ⟨t, ft⟩ := fin2
  simp only [F_law_cut, List.map_cons, List.map_nil, List.replicate, List.cons_append, List.nil_append, Nat.reduceSub, ss_cons, ss_nil]
  have s1 : S.ev (run fns sub w d) sub w (.asg (.v 1) (.bi .maxL (.cons (.bin .add (.comp C_law_cut_1 P_law_cut_2 (.rng1 (.bi .len (.cons (.var 0) .nil))) T_law_cut_3) (.lst (.cons (.con (.int 0)) .nil))) .nil))) none [some x, none, none] h' = .nx [some x, some (.int ((tl xs xs.length : Nat) : Int)), none] (h' ++ [iZ zs] ++ [iZ [0]] ++ [iZ (zs ++ [0])]) := by
    rw [S.ev, E.ev, Es.ev, E.ev, E.ev, ei, bind_ok]
    rw [show Pt.wipe P_law_cut_2 [some x, none, none] = [some x, none, none] from rfl]
    rw [show compF (ItV.rng 0 xs.length) (fun c sl h => Pt.put (run fns sub w d) sub w none P_law_cut_2 c sl h) (fun sl h => T.ev (run fns sub w d) sub w none T_law_cut_3 sl h) (fun sl h => E.ev (run fns sub w d) sub w none C_law_cut_1 sl h) w 0 [some x, none, none] [] h' = _ from c1]
    rw [noerr_ok, bind_ok, bind_ok]
    have ll : E.ev (run fns sub w d) sub w none (.lst (.cons (.con (.int 0)) .nil)) [some x, none, none] (h' ++ [iZ zs]) = .ok (.ref (h' ++ [iZ zs]).length) (h' ++ [iZ zs] ++ [iZ [0]]) := by
      simp only [Ss.ev, S.ev, Hs.ev, E.ev, Es.ev, T.ev, Pt.put, Pts.put, Pts.len, Es.len, Oe.ev, It.ev, bind_ok, bind_err, bind_bad, th_ok, th_err, th_bad, nxth, retth, errth, badth, noerr_ok, fin_nx, fin_ret, fin_err, tidy_same, tidyX_same, List.getElem?_cons_zero, List.getElem?_cons_succ, List.set_cons_zero, List.set_cons_succ]
      rw [if_pos (show ([C.int 0] : List C).length ≤ lineN by show 1 ≤ lineN; decide)]; rfl
    rw [ll, bind_ok, show binop .add (.ref h'.length) (.ref (h' ++ [iZ zs]).length) (h' ++ [iZ zs] ++ [iZ [0]]) = _ from ad, bind_ok]
    simp only [Ss.ev, S.ev, Hs.ev, E.ev, Es.ev, T.ev, Pt.put, Pts.put, Pts.len, Es.len, Oe.ev, It.ev, bind_ok, bind_err, bind_bad, th_ok, th_err, th_bad, nxth, retth, errth, badth, noerr_ok, fin_nx, fin_ret, fin_err, tidy_same, tidyX_same, List.getElem?_cons_zero, List.getElem?_cons_succ, List.set_cons_zero, List.set_cons_succ, m1]
  rw [s1, nxth]
  have s2 : S.ev (run fns sub w d) sub w (.ret (.bi .tuple (.cons (.slc (.var 0) .none (.some (.var 1))) .nil))) none [some x, some (.int ((tl xs xs.length : Nat) : Int)), none] (h' ++ [iZ zs] ++ [iZ [0]] ++ [iZ (zs ++ [0])]) = .ret (tZ (trimZ xs)) (h' ++ t) := by
    simp only [Ss.ev, S.ev, Hs.ev, E.ev, Es.ev, T.ev, Pt.put, Pts.put, Pts.len, Es.len, Oe.ev, It.ev, bind_ok, bind_err, bind_bad, th_ok, th_err, th_bad, nxth, retth, errth, badth, noerr_ok, fin_nx, fin_ret, fin_err, tidy_same, tidyX_same, List.getElem?_cons_zero, List.getElem?_cons_succ, List.set_cons_zero, List.set_cons_succ]
    cases hs : slice x none (some ((tl xs xs.length : Nat) : Int)) (h' ++ [iZ zs] ++ [iZ [0]] ++ [iZ (zs ++ [0])]) with
    | ok y h2 =>
      rw [hs] at ft
      simp only [bind_ok] at ft ⊢
      rw [ft, th_ok]
    | err a b c => rw [hs] at ft; cases ft
    | bad => rw [hs] at ft; cases ft
  rw [s2, retth, fin_ret]
  exact tidy_cl cl _ _ (iZ_unders _ _)
end
end Sh
set_option linter.all false
set_option autoImplicit false
set_option maxRecDepth 100000
set_option maxHeartbeats 8000000
/-! Sh, part Y: products and rests put together by a law; two values told alike; refusals of polynomials. -/
namespace Sh
open PySem
def P_law_made_1 : Pt := (.tup (.cons (.v 8) (.cons (.v 9) .nil)))
def L_law_made_2 : Ss := (.cons (.augi (.var 3) (.var 8) .add (.var 9)) .nil)
def P_law_made_3 : Pt := (.tup (.cons (.v 4) (.cons (.v 5) .nil)))
def P_law_made_4 : Pt := (.tup (.cons (.v 6) (.cons (.v 7) .nil)))
def L_law_made_5 : Ss := (.cons (.augi (.var 3) (.bin .add (.var 4) (.var 6)) .add (.bin .mul (.var 5) (.var 7))) .nil)
def L_law_made_6 : Ss := (.cons (.for_ P_law_made_4 (.enum (.var 1)) L_law_made_5) .nil)
def F_law_made (j_law_cut : Nat) : Fn := ⟨10, 3, (.cons (.asg (.v 3) (.bin .mul (.lst (.cons (.con (.int 0)) .nil)) (.bin .add (.bin .add (.bi .len (.cons (.var 0) .nil)) (.bi .len (.cons (.var 1) .nil))) (.bi .len (.cons (.var 2) .nil))))) (.cons (.for_ P_law_made_3 (.enum (.var 0)) L_law_made_6) (.cons (.for_ P_law_made_1 (.enum (.var 2)) L_law_made_2) (.cons (.ret (.call j_law_cut (.cons (.var 3) .nil))) .nil))))⟩
def F_law_is : Fn := ⟨2, 2, (.cons (.ret (.cmp .eq (.bi .repr (.cons (.var 0) .nil)) (.bi .repr (.cons (.var 1) .nil)))) .nil)⟩

theorem gI_set (xs : List Int) (i : Nat) (v : Int) (k : Nat) : gI (xs.set i v) k = if k = i ∧ i < xs.length then v else gI xs k := by
  unfold gI
  rw [List.getD_eq_getElem?_getD, List.getElem?_set, List.getD_eq_getElem?_getD]
  by_cases h : i = k
  · subst h
    by_cases h2 : i < xs.length
    · simp [h2]
    · simp [h2]
  · rw [if_neg h, if_neg (fun z => h z.1.symm)]
section
variable {fns : Nat → Option Fn} {sub : Nat → Str → Option Bool} {w : Nat} {h : Hc}
def stM (q o r : List Int) (n : Nat) (x4 x5 x6 x7 x8 x9 : Option C) : Sl := [some (tZ q), some (tZ o), some (tZ r), some (.ref (n + 1)), x4, x5, x6, x7, x8, x9]
def hpM (h : Hc) (R : List Int) : Hc := h ++ [iZ [0]] ++ [iZ R]
theorem hpM1 (R : List Int) : (hpM h R)[h.length + 1]? = some (iZ R) := by simp [hpM]
theorem hpMS (R R' : List Int) : (hpM h R).set (h.length + 1) (iZ R') = hpM h R' := by simp [hpM, List.set_append]
theorem put2 {call : Nat → List C → Hc → R C} {cx : Option (Nat × List C)} (i j : Nat) (x y : C) (sl : Sl) : Pt.put call sub w cx (.tup (.cons (.v i) (.cons (.v j) .nil))) (.tup [x, y]) sl h = .ok ((sl.set i (some x)).set j (some y)) h := rfl
theorem made_in (d : Nat) (q o r R : List Int) (x : Int) (s : Nat) (x6 x7 x8 x9 : Option C) (hR : s + o.length ≤ R.length) (bx : Bd 400 x) (bo : ∀ y ∈ o, Bd 400 y) (hw : 1000 < w) (ho : o.length ≤ 100) :
    ∃ x6' x7', forF (.ent (iZ o)) (Pt.put (run fns sub w d) sub w none P_law_made_4) (Ss.ev (run fns sub w d) sub w L_law_made_5 none) w 0 (stM q o r h.length (some (.int (s : Int))) (some (.int x)) x6 x7 x8 x9) (hpM h R)
      = .nx (stM q o r h.length (some (.int (s : Int))) (some (.int x)) x6' x7' x8 x9) (hpM h (stepL R o (-x) R.length s o.length)) := by
  obtain ⟨sl', h', l1, ⟨x6', x7', l2⟩, l3⟩ := forF_gen (it := .ent (iZ o)) (n := o.length) (el := fun i => .tup [.int (i : Int), .int (gI o i)]) (g := Pt.put (run fns sub w d) sub w none P_law_made_4) (b := Ss.ev (run fns sub w d) sub w L_law_made_5 none)
      (fun j sl h' => (∃ x6 x7, sl = stM q o r h.length (some (.int (s : Int))) (some (.int x)) x6 x7 x8 x9) ∧ h' = hpM h (stepL R o (-x) R.length s j))
      (fun i _ h' _ _ => at_entI o i h') (fun j sl h' ⟨⟨x6, x7, a1⟩, a2⟩ hj => by
        subst a1 a2
        have e0 : (s : Int) + (j : Int) = ((s + j : Nat) : Int) := by omega
        have i1 : item (.ref (h.length + 1)) (.int ((s + j : Nat) : Int)) (hpM h (stepL R o (-x) R.length s j)) = .ok (.int (gI R (s + j))) (hpM h (stepL R o (-x) R.length s j)) := by
          rw [item_iZ (s + j) (seq_ref (hpM1 _)) (by rw [stepL_len]; omega), stepL_at _ _ _ _ _ _ (by omega)]
        have m1 := mul_of (i := x) (j := gI o j) bx (gI_mem (P := Bd 400) bo (bd0 _) j) (by decide) (by decide)
        have se : setitem (.ref (h.length + 1)) (.int ((s + j : Nat) : Int)) (.int (gI R (s + j) + x * gI o j)) (hpM h (stepL R o (-x) R.length s j)) = .ok () (hpM h (stepL R o (-x) R.length s (j + 1))) := by
          rw [setitem_iZ (hpM1 _) (by rw [stepL_len]; omega), hpMS, ← stepL_set _ _ _ _ _ _ (show s + j < R.length by omega), Int.neg_mul, Int.sub_neg]
        refine ⟨stM q o r h.length (some (.int (s : Int))) (some (.int x)) (some (.int (j : Int))) (some (.int (gI o j))) x8 x9, hpM h (stepL R o (-x) R.length s j), stM q o r h.length (some (.int (s : Int))) (some (.int x)) (some (.int (j : Int))) (some (.int (gI o j))) x8 x9, hpM h (stepL R o (-x) R.length s (j + 1)), rfl, .inl ?_, ⟨⟨_, _, rfl⟩, rfl⟩⟩
        simp only [L_law_made_5, stM, Ss.ev, S.ev, Hs.ev, E.ev, Es.ev, T.ev, Pt.put, Pts.put, Pts.len, Es.len, Oe.ev, It.ev, bind_ok, bind_err, bind_bad, th_ok, th_err, th_bad, nxth, retth, errth, badth, noerr_ok, fin_nx, fin_ret, fin_err, tidy_same, tidyX_same, List.getElem?_cons_zero, List.getElem?_cons_succ, List.set_cons_zero, List.set_cons_succ, add_int, e0, i1, bin_mul', m1, aug_add, se]) w 0 (stM q o r h.length (some (.int (s : Int))) (some (.int x)) x6 x7 x8 x9) (hpM h R) ⟨⟨_, _, rfl⟩, by rw [stepL_zero]⟩ (Nat.zero_le _) (by omega)
  exact ⟨x6', x7', by rw [l1, l2, l3]⟩
theorem made_out (d : Nat) (q o r R : List Int) (y4 y5 y6 y7 x8 x9 : Option C) (hR : q.length + o.length ≤ R.length) (h0 : ∀ k, gI R k = 0) (bq : ∀ y ∈ q, Bd 400 y) (bo : ∀ y ∈ o, Bd 400 y) (hw : 1000 < w) (hq : q.length ≤ 100) (ho : o.length ≤ 100) :
    ∃ x4 x5 x6 x7 R', forF (.ent (iZ q)) (Pt.put (run fns sub w d) sub w none P_law_made_3) (Ss.ev (run fns sub w d) sub w L_law_made_6 none) w 0 (stM q o r h.length y4 y5 y6 y7 x8 x9) (hpM h R) = .nx (stM q o r h.length x4 x5 x6 x7 x8 x9) (hpM h R')
      ∧ R'.length = R.length ∧ ∀ k, k < R.length → gI R' k = cv q (gI o) k := by
  obtain ⟨sl', h', l1, ⟨x4, x5, x6, x7, R', l2, l3, l4⟩, l5⟩ := forF_gen (it := .ent (iZ q)) (n := q.length) (el := fun i => .tup [.int (i : Int), .int (gI q i)]) (g := Pt.put (run fns sub w d) sub w none P_law_made_3) (b := Ss.ev (run fns sub w d) sub w L_law_made_6 none)
      (fun j sl h' => (∃ x4 x5 x6 x7 R', sl = stM q o r h.length x4 x5 x6 x7 x8 x9 ∧ h' = hpM h R' ∧ R'.length = R.length ∧ ∀ k, k < R.length → gI R' k = cvF (gI q) (gI o) k j) ∧ True)
      (fun i _ h' _ _ => at_entI q i h') (fun j sl h' ⟨⟨x4, x5, x6, x7, R', a1, a2, a3, a4⟩, _⟩ hj => by
        subst a1 a2
        obtain ⟨x6', x7', il⟩ := made_in (fns := fns) (sub := sub) (w := w) (h := h) d q o r R' (gI q j) j x6 x7 x8 x9 (by omega) (gI_mem (P := Bd 400) bq (bd0 _) j) bo hw ho
        refine ⟨stM q o r h.length (some (.int (j : Int))) (some (.int (gI q j))) x6 x7 x8 x9, hpM h R', stM q o r h.length (some (.int (j : Int))) (some (.int (gI q j))) x6' x7' x8 x9, hpM h (stepL R' o (-gI q j) R'.length j o.length), rfl, .inl ?_, ⟨⟨_, _, _, _, _, rfl, rfl, by rw [stepL_len, a3], fun k hk => ?_⟩, trivial⟩⟩
        · unfold L_law_made_6
          rw [ss_cons, S.ev]
          rw [show It.ev (run fns sub w d) sub w none (.enum (.var 1)) (stM q o r h.length (some (.int (j : Int))) (some (.int (gI q j))) x6 x7 x8 x9) (hpM h R') = .ok (.ent (iZ o)) (hpM h R') from rfl, th_ok, il, nxth, ss_nil]
        · rw [stepL_get, if_pos (show k < R'.length by omega), a4 k hk]
          show _ = cvF (gI q) (gI o) k j + gI q j * shf j (gI o) k
          unfold shf
          by_cases h1 : k < j
          · rw [if_neg (show ¬ (j ≤ k ∧ k < j + o.length) by omega), if_pos h1]; simp
          · rw [if_neg h1]
            by_cases h2 : k < j + o.length
            · rw [if_pos (show j ≤ k ∧ k < j + o.length by omega), Int.neg_mul]; omega
            · rw [if_neg (show ¬ (j ≤ k ∧ k < j + o.length) by omega), getD_big (show o.length ≤ k - j by omega)]; simp) w 0 (stM q o r h.length y4 y5 y6 y7 x8 x9) (hpM h R) ⟨⟨_, _, _, _, R, rfl, rfl, rfl, fun k _ => h0 k⟩, trivial⟩ (Nat.zero_le _) (by omega)
  refine ⟨x4, x5, x6, x7, R', by rw [l1, l2, l3], l4.1, fun k hk => ?_⟩
  rw [l4.2 k hk, cv_cvF]
theorem made_add (d : Nat) (q o r R : List Int) (x4 x5 x6 x7 y8 y9 : Option C) (hR : r.length ≤ R.length) (hw : 1000 < w) (hr : r.length ≤ 100) :
    ∃ x8 x9 R', forF (.ent (iZ r)) (Pt.put (run fns sub w d) sub w none P_law_made_1) (Ss.ev (run fns sub w d) sub w L_law_made_2 none) w 0 (stM q o r h.length x4 x5 x6 x7 y8 y9) (hpM h R) = .nx (stM q o r h.length x4 x5 x6 x7 x8 x9) (hpM h R')
      ∧ R'.length = R.length ∧ ∀ k, gI R' k = gI R k + gI r k := by
  obtain ⟨sl', h', l1, ⟨x8, x9, R', l2, l3, l4⟩, l5⟩ := forF_gen (it := .ent (iZ r)) (n := r.length) (el := fun i => .tup [.int (i : Int), .int (gI r i)]) (g := Pt.put (run fns sub w d) sub w none P_law_made_1) (b := Ss.ev (run fns sub w d) sub w L_law_made_2 none)
      (fun j sl h' => (∃ x8 x9 R', sl = stM q o r h.length x4 x5 x6 x7 x8 x9 ∧ h' = hpM h R' ∧ R'.length = R.length ∧ ∀ k, gI R' k = gI R k + (if k < j then gI r k else 0)) ∧ True)
      (fun i _ h' _ _ => at_entI r i h') (fun j sl h' ⟨⟨x8, x9, R', a1, a2, a3, a4⟩, _⟩ hj => by
        subst a1 a2
        have i1 : item (.ref (h.length + 1)) (.int (j : Int)) (hpM h R') = .ok (.int (gI R' j)) (hpM h R') := item_iZ j (seq_ref (hpM1 _)) (by omega)
        have se : setitem (.ref (h.length + 1)) (.int (j : Int)) (.int (gI R' j + gI r j)) (hpM h R') = .ok () (hpM h (R'.set j (gI R' j + gI r j))) := by
          rw [setitem_iZ (hpM1 _) (by omega), hpMS]
        refine ⟨stM q o r h.length x4 x5 x6 x7 (some (.int (j : Int))) (some (.int (gI r j))), hpM h R', stM q o r h.length x4 x5 x6 x7 (some (.int (j : Int))) (some (.int (gI r j))), hpM h (R'.set j (gI R' j + gI r j)), rfl, .inl ?_, ⟨⟨_, _, _, rfl, rfl, by simp [a3], fun k => ?_⟩, trivial⟩⟩
        · simp only [L_law_made_2, stM, Ss.ev, S.ev, Hs.ev, E.ev, Es.ev, T.ev, Pt.put, Pts.put, Pts.len, Es.len, Oe.ev, It.ev, bind_ok, bind_err, bind_bad, th_ok, th_err, th_bad, nxth, retth, errth, badth, noerr_ok, fin_nx, fin_ret, fin_err, tidy_same, tidyX_same, List.getElem?_cons_zero, List.getElem?_cons_succ, List.set_cons_zero, List.set_cons_succ, i1, aug_add, se]
        · rw [gI_set, a4 k]
          by_cases h1 : k = j
          · rw [if_pos ⟨h1, by omega⟩, h1, a4 j, if_neg (by omega), if_pos (by omega)]; omega
          · rw [if_neg (fun z => h1 z.1)]
            by_cases h2 : k < j
            · rw [if_pos h2, if_pos (show k < j + 1 by omega)]
            · rw [if_neg h2, if_neg (show ¬ k < j + 1 by omega)]) w 0 (stM q o r h.length x4 x5 x6 x7 y8 y9) (hpM h R) ⟨⟨_, _, R, rfl, rfl, rfl, fun k => by simp⟩, trivial⟩ (Nat.zero_le _) (by omega)
  refine ⟨x8, x9, R', by rw [l1, l2, l3], l4.1, fun k => ?_⟩
  rw [l4.2 k]
  by_cases h1 : k < r.length
  · rw [if_pos h1]
  · rw [if_neg h1, getD_big (show r.length ≤ k by omega)]
theorem gI_zeros (n k : Nat) : gI (List.replicate n 0) k = 0 := by
  unfold gI
  rw [List.getD_eq_getElem?_getD, List.getElem?_replicate]
  split <;> rfl
theorem flat_zero (n : Nat) : (List.replicate n (iZ [0])).flatten = iZ (List.replicate n 0) := by
  induction n with
  | zero => rfl
  | succ n ih => rw [List.replicate_succ, List.flatten_cons, ih, List.replicate_succ]; rfl
theorem made_run {i j : Nat} (e : fns i = some (F_law_made j)) (e1 : fns j = some F_law_cut) (hw : 1000 < w) (d : Nat) (cl : ClH h) (q o r : List Int) (bq : ∀ y ∈ q, Bd 400 y) (bo : ∀ y ∈ o, Bd 400 y) (hq : q.length ≤ 100) (ho : o.length ≤ 100) (hr : r.length ≤ 100) :
    ∃ M, (∀ k, gI M k = cv q (gI o) k + gI r k) ∧ run fns sub w (d + 2) i [tZ q, tZ o, tZ r] h = .ok (tZ (trimZ M)) h := by
  let N := q.length + o.length + r.length
  obtain ⟨x4, x5, x6, x7, R1, a1, a2, a3⟩ := made_out (fns := fns) (sub := sub) (w := w) (h := h) (d + 1) q o r (List.replicate N 0) none none none none none none (by rw [List.length_replicate]; simp only [N]; omega) (gI_zeros N) bq bo hw hq ho
  obtain ⟨x8, x9, R2, b1, b2, b3⟩ := made_add (fns := fns) (sub := sub) (w := w) (h := h) (d + 1) q o r R1 x4 x5 x6 x7 none none (by rw [a2]; simp [N]) hw hr
  have cl2 : ClH (hpM h R2) := cl_push (cl_push cl (iZ_unders _ _)) (iZ_unders _ _)
  have ct := cut_run (sub := sub) (w := w) e1 hw d (hpM h R2) cl2 (.ref (h.length + 1)) R2 (seq_ref (hpM1 R2)) (.inr ⟨_, rfl⟩) (by rw [b2, a2]; simp [N]; omega)
  refine ⟨R2, fun k => ?_, ?_⟩
  · rw [b3]
    by_cases hk : k < N
    · rw [a3 k (by simpa using hk)]
    · rw [getD_big (show R1.length ≤ k by rw [a2]; simp; omega), cv_high q (gI o) o.length k (fun i hi => getD_big (by omega)) (by simp [N] at hk; omega)]
  · rw [un e _ _ _ rfl (of_decide_eq_true rfl)]
    simp only [F_law_made, List.map_cons, List.map_nil, List.replicate, List.cons_append, List.nil_append, Nat.reduceSub, ss_cons, ss_nil]
    have m0 : mulC (.ref h.length) (.int ((q.length : Int) + (o.length : Int) + (r.length : Int))) (h ++ [iZ [0]]) = .ok (.ref (h.length + 1)) (hpM h (List.replicate N 0)) := by
      show (match (h ++ [iZ [0]])[h.length]? with
        | some xs => if (q.length : Int) + (o.length : Int) + (r.length : Int) < 0 ∨ lineN < xs.length * ((q.length : Int) + (o.length : Int) + (r.length : Int)).toNat ∨ 1000000000 ≤ (q.length : Int) + (o.length : Int) + (r.length : Int) then R.bad else .ok (C.ref (h ++ [iZ [0]]).length) (h ++ [iZ [0]] ++ [(List.replicate ((q.length : Int) + (o.length : Int) + (r.length : Int)).toNat xs).flatten])
        | _ => .bad) = _
      rw [last_get]
      have en : ((q.length : Int) + (o.length : Int) + (r.length : Int)).toNat = N := by simp only [N]; omega
      dsimp only
      rw [en, flat_zero, if_neg]
      · simp [hpM]
      · rintro (z | z | z)
        · omega
        · rw [iZ_len] at z
          have : lineN = 1000000 := rfl
          simp [N] at z
          omega
        · omega
    have s1 : S.ev (run fns sub w (d + 1)) sub w (.asg (.v 3) (.bin .mul (.lst (.cons (.con (.int 0)) .nil)) (.bin .add (.bin .add (.bi .len (.cons (.var 0) .nil)) (.bi .len (.cons (.var 1) .nil))) (.bi .len (.cons (.var 2) .nil))))) none [some (tZ q), some (tZ o), some (tZ r), none, none, none, none, none, none, none] h = .nx (stM q o r h.length none none none none none none) (hpM h (List.replicate N 0)) := by
      have ll : ([C.int 0] : List C).length ≤ lineN := by show 1 ≤ lineN; decide
      simp only [Ss.ev, S.ev, Hs.ev, E.ev, Es.ev, T.ev, Pt.put, Pts.put, Pts.len, Es.len, Oe.ev, It.ev, bind_ok, bind_err, bind_bad, th_ok, th_err, th_bad, nxth, retth, errth, badth, noerr_ok, fin_nx, fin_ret, fin_err, tidy_same, tidyX_same, List.getElem?_cons_zero, List.getElem?_cons_succ, List.set_cons_zero, List.set_cons_succ, if_pos ll, len_tZ, add_int, bin_mul']
      rw [show (h ++ [[C.int 0]]) = h ++ [iZ [0]] from rfl, m0]
      rfl
    rw [s1, nxth]
    have s2 : S.ev (run fns sub w (d + 1)) sub w (.for_ P_law_made_3 (.enum (.var 0)) L_law_made_6) none (stM q o r h.length none none none none none none) (hpM h (List.replicate N 0)) = .nx (stM q o r h.length x4 x5 x6 x7 none none) (hpM h R1) := by
      rw [S.ev]
      exact a1
    rw [s2, nxth]
    have s3 : S.ev (run fns sub w (d + 1)) sub w (.for_ P_law_made_1 (.enum (.var 2)) L_law_made_2) none (stM q o r h.length x4 x5 x6 x7 none none) (hpM h R1) = .nx (stM q o r h.length x4 x5 x6 x7 x8 x9) (hpM h R2) := by
      rw [S.ev]
      exact b1
    rw [s3, nxth]
    simp only [stM, Ss.ev, S.ev, Hs.ev, E.ev, Es.ev, T.ev, Pt.put, Pts.put, Pts.len, Es.len, Oe.ev, It.ev, bind_ok, bind_err, bind_bad, th_ok, th_err, th_bad, nxth, retth, errth, badth, noerr_ok, fin_nx, fin_ret, fin_err, tidy_same, tidyX_same, List.getElem?_cons_zero, List.getElem?_cons_succ, List.set_cons_zero, List.set_cons_succ, ct]
    have := tidy_cl cl (tZ (trimZ R2)) ([iZ [0]] ++ [iZ R2]) (iZ_unders _ _)
    rw [← List.append_assoc] at this
    exact this
theorem is_run {i : Nat} (e : fns i = some F_law_is) (d : Nat) (c : C) (dp wt : Nat) (f : Fit c dp wt) (h1 : dp ≤ 50) (h2 : wt ≤ 8000) : run fns sub w (d + 1) i [c, c] h = .ok (.bl true) h := by
  rw [un e _ _ _ rfl (of_decide_eq_true rfl)]
  have r := repr_fit f h1 h2 h
  have q := eq_rep f.h h
  simp only [F_law_is, List.map_cons, List.map_nil, List.replicate, List.cons_append, List.nil_append, Nat.reduceSub, Ss.ev, S.ev, Hs.ev, E.ev, Es.ev, T.ev, Pt.put, Pts.put, Pts.len, Es.len, Oe.ev, It.ev, bind_ok, bind_err, bind_bad, th_ok, th_err, th_bad, nxth, retth, errth, badth, noerr_ok, fin_nx, fin_ret, fin_err, tidy_same, tidyX_same, List.getElem?_cons_zero, List.getElem?_cons_succ, List.set_cons_zero, List.set_cons_succ, r, q]
/-! ### polynomials told and refused -/
theorem isPoly_mk {xs : List Int} (hl : xs.length ≤ 13) (hx : ∀ x ∈ xs, x.natAbs ≤ 1000000) (ht : Trim xs) : isPoly (tZ xs) = true := by
  show (decide ((iZ xs).length ≤ 13) && ((iZ xs).all okN && lastOk (iZ xs))) = true
  have h1 : (iZ xs).all okN = true := List.all_eq_true.mpr fun c hc => by
    obtain ⟨x, hx', rfl⟩ := List.mem_map.mp hc
    exact decide_eq_true (hx x hx')
  have h2 : lastOk (iZ xs) = true := by
    unfold lastOk
    rw [iZ_len, iZ_get]
    rcases ht with rfl | ht
    · rfl
    · by_cases z : xs.length = 0
      · have : xs = [] := List.eq_nil_of_length_eq_zero z
        rw [this]; rfl
      · rw [gI_of (by omega)]
        exact bne_iff_ne.mpr ht
  rw [h1, h2, iZ_len, decide_eq_true hl]; rfl
theorem check_monic_run {i x0 : Nat} (e : fns i = some (F_check_monic x0)) (d : Nat) (h : Hc) (xs : List Int) : run fns sub w (d + 1) i [tZ xs] h = if 2 ≤ xs.length ∧ gI xs (xs.length - 1) = 1 then .ok .non h else .err x0 [] h := by
  rw [un e _ _ _ rfl (of_decide_eq_true rfl)]
  simp only [F_check_monic, List.map_cons, List.map_nil, List.replicate, List.cons_append, List.nil_append, Nat.reduceSub]
  by_cases h1 : 2 ≤ xs.length
  · have it := item_last (seq_tZ h xs) (by omega)
    have h1' : ¬ ((xs.length : Int) < 2) := by omega
    by_cases h2 : gI xs (xs.length - 1) = 1
    · rw [if_pos ⟨h1, h2⟩]
      simp [Ss.ev, S.ev, Hs.ev, E.ev, Es.ev, T.ev, Pt.put, Pts.put, Pts.len, Es.len, Oe.ev, It.ev, bind_ok, bind_err, bind_bad, th_ok, th_err, th_bad, nxth, retth, errth, badth, noerr_ok, fin_nx, fin_ret, fin_err, tidy_same, tidyX_same, List.getElem?_cons_zero, List.getElem?_cons_succ, List.set_cons_zero, List.set_cons_succ, len_tZ, lt_i, h1', it, ne_int, h2]
    · rw [if_neg (fun z => h2 z.2)]
      simp [Ss.ev, S.ev, Hs.ev, E.ev, Es.ev, T.ev, Pt.put, Pts.put, Pts.len, Es.len, Oe.ev, It.ev, bind_ok, bind_err, bind_bad, th_ok, th_err, th_bad, nxth, retth, errth, badth, noerr_ok, fin_nx, fin_ret, fin_err, tidy_same, tidyX_same, List.getElem?_cons_zero, List.getElem?_cons_succ, List.set_cons_zero, List.set_cons_succ, len_tZ, lt_i, h1', it, ne_int, h2]
  · have h1' : (xs.length : Int) < 2 := by omega
    rw [if_neg (fun z => h1 z.1)]
    simp [Ss.ev, S.ev, Hs.ev, E.ev, Es.ev, T.ev, Pt.put, Pts.put, Pts.len, Es.len, Oe.ev, It.ev, bind_ok, bind_err, bind_bad, th_ok, th_err, th_bad, nxth, retth, errth, badth, noerr_ok, fin_nx, fin_ret, fin_err, tidy_same, tidyX_same, List.getElem?_cons_zero, List.getElem?_cons_succ, List.set_cons_zero, List.set_cons_succ, len_tZ, lt_i, h1']
structure PD (fns : Nat → Option Fn) (i x0 x1 : Nat) : Prop where
  ex : ∃ jd jm jc jp ji jt, fns i = some (F_poly_divided jd jm jc) ∧ fns jd = some (F_divided jt) ∧ fns jt = some F_trimmed ∧ fns jm = some (F_check_monic x1) ∧ fns jc = some (F_check_polynomial jp x0) ∧ fns jp = some (F_is_polynomial ji) ∧ fns ji = some F_is_integer
section
variable {i x0 x1 : Nat} (P : PD fns i x0 x1) (hw : 1000 < w)
include P hw
theorem pd_bad1 (d : Nat) (h : Hc) (x y : C) (hx : isPoly x = false) : run fns sub w (d + 5) i [x, y] h = .err x0 [x] h := by
  obtain ⟨jd, jm, jc, jp, ji, jt, e1, e2, e3, e4, e5, e6, e7⟩ := P.ex
  rw [un e1 _ _ _ rfl (of_decide_eq_true rfl)]
  have c1 : run fns sub w (d + 4) jc [x] h = if isPoly x then .ok .non h else .err x0 [x] h := check_polynomial_run (sub := sub) e5 e6 e7 hw (d + 1) h _
  rw [hx] at c1
  simp only [F_poly_divided, List.map_cons, List.map_nil, List.replicate, List.cons_append, List.nil_append, Nat.reduceSub, Ss.ev, S.ev, Hs.ev, E.ev, Es.ev, T.ev, Pt.put, Pts.put, Pts.len, Es.len, Oe.ev, It.ev, bind_ok, bind_err, bind_bad, th_ok, th_err, th_bad, nxth, retth, errth, badth, noerr_ok, fin_nx, fin_ret, fin_err, tidy_same, tidyX_same, List.getElem?_cons_zero, List.getElem?_cons_succ, List.set_cons_zero, List.set_cons_succ, c1, Bool.false_eq_true, if_false]
theorem pd_bad2 (d : Nat) (h : Hc) (x y : C) (hx : isPoly x = true) (hy : isPoly y = false) : run fns sub w (d + 5) i [x, y] h = .err x0 [y] h := by
  obtain ⟨jd, jm, jc, jp, ji, jt, e1, e2, e3, e4, e5, e6, e7⟩ := P.ex
  rw [un e1 _ _ _ rfl (of_decide_eq_true rfl)]
  have c1 : run fns sub w (d + 4) jc [x] h = if isPoly x then .ok .non h else .err x0 [x] h := check_polynomial_run (sub := sub) e5 e6 e7 hw (d + 1) h _
  have c2 : run fns sub w (d + 4) jc [y] h = if isPoly y then .ok .non h else .err x0 [y] h := check_polynomial_run (sub := sub) e5 e6 e7 hw (d + 1) h _
  rw [hx] at c1
  rw [hy] at c2
  simp only [F_poly_divided, List.map_cons, List.map_nil, List.replicate, List.cons_append, List.nil_append, Nat.reduceSub, Ss.ev, S.ev, Hs.ev, E.ev, Es.ev, T.ev, Pt.put, Pts.put, Pts.len, Es.len, Oe.ev, It.ev, bind_ok, bind_err, bind_bad, th_ok, th_err, th_bad, nxth, retth, errth, badth, noerr_ok, fin_nx, fin_ret, fin_err, tidy_same, tidyX_same, List.getElem?_cons_zero, List.getElem?_cons_succ, List.set_cons_zero, List.set_cons_succ, c1, c2, Bool.false_eq_true, if_false, if_true]
theorem pd_bad3 (d : Nat) (h : Hc) (x : C) (ys : List Int) (hx : isPoly x = true) (hy : isPoly (tZ ys) = true) (hm : ¬ (2 ≤ ys.length ∧ gI ys (ys.length - 1) = 1)) : run fns sub w (d + 5) i [x, tZ ys] h = .err x1 [] h := by
  obtain ⟨jd, jm, jc, jp, ji, jt, e1, e2, e3, e4, e5, e6, e7⟩ := P.ex
  rw [un e1 _ _ _ rfl (of_decide_eq_true rfl)]
  have c1 : run fns sub w (d + 4) jc [x] h = if isPoly x then .ok .non h else .err x0 [x] h := check_polynomial_run (sub := sub) e5 e6 e7 hw (d + 1) h _
  have c2 : run fns sub w (d + 4) jc [(tZ ys)] h = if isPoly (tZ ys) then .ok .non h else .err x0 [(tZ ys)] h := check_polynomial_run (sub := sub) e5 e6 e7 hw (d + 1) h _
  have c3 := check_monic_run (sub := sub) (w := w) e4 (d + 3) h ys
  rw [hx] at c1
  rw [hy] at c2
  rw [if_neg hm] at c3
  simp only [F_poly_divided, List.map_cons, List.map_nil, List.replicate, List.cons_append, List.nil_append, Nat.reduceSub, Ss.ev, S.ev, Hs.ev, E.ev, Es.ev, T.ev, Pt.put, Pts.put, Pts.len, Es.len, Oe.ev, It.ev, bind_ok, bind_err, bind_bad, th_ok, th_err, th_bad, nxth, retth, errth, badth, noerr_ok, fin_nx, fin_ret, fin_err, tidy_same, tidyX_same, List.getElem?_cons_zero, List.getElem?_cons_succ, List.set_cons_zero, List.set_cons_succ, c1, c2, c3, if_true]
theorem pd_ok (d : Nat) {h : Hc} (cl : ClH h) (W lows : List Int) (hx : isPoly (tZ W) = true) (hy : isPoly (tZ (lows ++ [1])) = true) (h1 : 1 ≤ lows.length) (hW : W.length ≤ 30) (hl : lows.length ≤ 30) (bW : ∀ x ∈ W, Bd 20 x) (bl : ∀ x ∈ lows, Bd 5 x) :
    ∃ q r, Dv W lows 20 q r ∧ run fns sub w (d + 5) i [tZ W, tZ (lows ++ [1])] h = .ok (.tup [tZ q, tZ (trimZ r)]) h := by
  obtain ⟨jd, jm, jc, jp, ji, jt, e1, e2, e3, e4, e5, e6, e7⟩ := P.ex
  obtain ⟨q, r, D, dr⟩ := divided_run (sub := sub) (w := w) e2 e3 hw (d + 2) cl W lows 20 hW hl (by decide) bW bl
  refine ⟨q, r, D, ?_⟩
  rw [un e1 _ _ _ rfl (of_decide_eq_true rfl)]
  have c1 : run fns sub w (d + 4) jc [(tZ W)] h = if isPoly (tZ W) then .ok .non h else .err x0 [(tZ W)] h := check_polynomial_run (sub := sub) e5 e6 e7 hw (d + 1) h _
  have c2 : run fns sub w (d + 4) jc [(tZ (lows ++ [1]))] h = if isPoly (tZ (lows ++ [1])) then .ok .non h else .err x0 [(tZ (lows ++ [1]))] h := check_polynomial_run (sub := sub) e5 e6 e7 hw (d + 1) h _
  have c3 := check_monic_run (sub := sub) (w := w) e4 (d + 3) h (lows ++ [1])
  rw [hx] at c1
  rw [hy] at c2
  rw [if_pos ⟨by simp; omega, by rw [gI_monic]; simpa using mo_top lows⟩] at c3
  simp only [F_poly_divided, List.map_cons, List.map_nil, List.replicate, List.cons_append, List.nil_append, Nat.reduceSub, Ss.ev, S.ev, Hs.ev, E.ev, Es.ev, T.ev, Pt.put, Pts.put, Pts.len, Es.len, Oe.ev, It.ev, bind_ok, bind_err, bind_bad, th_ok, th_err, th_bad, nxth, retth, errth, badth, noerr_ok, fin_nx, fin_ret, fin_err, tidy_same, tidyX_same, List.getElem?_cons_zero, List.getElem?_cons_succ, List.set_cons_zero, List.set_cons_succ, c1, c2, c3, if_true, dr]
end
end
end Sh
set_option linter.all false
set_option autoImplicit false
set_option maxRecDepth 100000
set_option maxHeartbeats 16000000
/-! Sh, part D2: pots, draws and lists due, as the laws k10 to k14 have them. -/
namespace Sh
open PySem
def F_law_pot : Fn := ⟨4, 2, (.cons (.asg (.v 2) (.ite (.cmp .lt (.var 1) (.bi .len (.cons (.var 0) .nil))) (.bi .abs (.cons (.idx (.var 0) (.var 1)) .nil)) (.bin .add (.bin .add (.bin .mul (.con (.int 613)) (.var 1)) (.con (.int 29))) (.bin .mod (.bi .sum (.cons (.slc (.var 0) .none (.some (.con (.int 1)))) .nil)) (.con (.int 1000003)))))) (.cons (.asg (.v 3) (.bin .add (.bin .mod (.bin .add (.bin .add (.bin .mul (.bin .mod (.var 2) (.con (.int 2147483549))) (.con (.int 40014))) (.bin .mul (.con (.int 9221)) (.var 1))) (.con (.int 57))) (.con (.int 2147483563))) (.con (.int 1)))) (.cons (.ret (.lst (.cons (.bi .max2 (.cons (.con (.int 0)) (.cons (.bin .sub (.var 2) (.bin .pow (.con (.int 10)) (.con (.int 18)))) .nil))) (.cons (.var 3) .nil)))) .nil)))⟩
def F_law_draw : Fn := ⟨3, 2, (.cons (.ifs (.cmp .gt (.idx (.var 0) (.con (.int 0))) (.con (.int 0))) (.cons (.asg (.tup (.cons (.sub (.var 0) (.con (.int 0))) (.cons (.v 2) .nil))) (.bi .divmod (.cons (.idx (.var 0) (.con (.int 0))) (.cons (.var 1) .nil)))) (.cons (.ret (.var 2)) .nil)) .nil) (.cons (.asg (.sub (.var 0) (.con (.int 1))) (.bin .mod (.bin .add (.bin .mul (.idx (.var 0) (.con (.int 1))) (.con (.int 39373))) (.con (.int 9209))) (.con (.int 2147483587)))) (.cons (.ret (.bin .mod (.bin .div (.bin .mod (.bin .mul (.idx (.var 0) (.con (.int 1))) (.idx (.var 0) (.con (.int 1)))) (.con (.int 2147483563))) (.con (.int 17))) (.var 1))) .nil)))⟩

/-! ### stores that a law walks through: one pot is written, all else stays -/
structure Stp (p : Nat) (h h' : Hc) : Prop where
  len : h.length ≤ h'.length
  keep : ∀ m, m < h.length → m ≠ p → h'[m]? = h[m]?
  pot : PotAt h' p
  cl : ClH h'
theorem Stp.trans {p : Nat} {h h' h2 : Hc} (a : Stp p h h') (b : Stp p h' h2) : Stp p h h2 := ⟨Nat.le_trans a.len b.len, fun m hm hp => by rw [b.keep m (Nat.lt_of_lt_of_le hm a.len) hp, a.keep m hm hp], b.pot, b.cl⟩
theorem Stp.refl {p : Nat} {h : Hc} (a : PotAt h p) (b : ClH h) : Stp p h h := ⟨Nat.le_refl _, fun _ _ _ => rfl, a, b⟩
theorem Stp.nx {p : Nat} {h h' : Hc} (a : PotAt h p) (b : ClH h) (x : Nx p h h') : Stp p h h' := ⟨Nat.le_of_eq x.len.symm, fun m _ hm => x.get hm, x.pot a, x.closed b⟩
theorem Stp.push {p : Nat} {h h' : Hc} (s : Stp p h h') {xs : List C} (hx : C.unders (h'.length + 1) xs = true) : Stp p h (h' ++ [xs]) :=
  ⟨Nat.le_trans s.len (by simp), fun m hm hp => by rw [List.getElem?_append_left (Nat.lt_of_lt_of_le hm s.len), s.keep m hm hp], s.pot.app _, cl_push s.cl hx⟩
theorem Stp.dr {p : Nat} {h h' h2 : Hc} (s : Stp p h h') (x : Nx p h' h2) : Stp p h h2 := s.trans (.nx s.pot s.cl x)
section
variable {fns : Nat → Option Fn} {sub : Nat → Str → Option Bool} {w : Nat}
theorem draw_ok {j : Nat} (e : fns j = some F_law_draw) : DrawOk fns sub w j := by
  intro d h n many p h1 h2
  have hn := p.lt
  obtain ⟨L, e0, p0, p1, rfl, q1, q2⟩ := p
  by_cases z : 0 < p0
  · refine ⟨p0 % many, h.set n [.int (p0 / many), .int p1], Int.emod_nonneg _ (by omega), Int.emod_lt_of_pos _ h1, .inr ⟨_, rfl, _, _, rfl, q1, q2⟩, ?_⟩
    rw [un e _ _ _ rfl (of_decide_eq_true rfl)]
    simp [F_law_draw, Ss.ev, S.ev, Hs.ev, E.ev, Es.ev, T.ev, Pt.put, Pts.put, Pts.len, Es.len, Oe.ev, It.ev, bind_ok, bind_err, bind_bad, th_ok, th_err, th_bad, nxth, retth, errth, badth, noerr_ok, fin_nx, fin_ret, fin_err, tidy_same, tidyX_same, List.getElem?_cons_zero, List.getElem?_cons_succ, List.set_cons_zero, List.set_cons_succ, itr0 e0, gt_i, z, divmod_int _ _ _ h1 h2, sei0 e0, tidy_len]
  · obtain ⟨f1, f2⟩ := fmod_b (p1 * 39373 + 9209) (by decide : (0 : Int) < 2147483587)
    generalize hr : (p1 * 39373 + 9209).fmod 2147483587 = r at f1 f2
    obtain ⟨f3, f4⟩ := fmod_b (((r * r).fmod 2147483563).fdiv 17) h1
    have e2 : (h.set n [.int p0, .int r])[n]? = some [.int p0, .int r] := List.getElem?_set_self hn
    have m1 := mul_of (i := p1) (j := 39373) (bd_small (by omega) (by omega)) (bd_small (by omega) (by omega)) (by decide) (by decide)
    have m2 := mul_of (i := r) (j := r) (bd_small (by omega) (by omega)) (bd_small (by omega) (by omega)) (by decide) (by decide)
    have dv := div_of (i := (r * r).fmod 2147483563) (j := 17) (b := 80) (by decide) (bd_small (by omega) (by omega)) (by decide)
    have md1 := mod_of (i := p1 * 39373 + 9209) (j := 2147483587) (by decide)
    have md2 := mod_of (i := r * r) (j := 2147483563) (by decide)
    have md3 := mod_of (i := ((r * r).fmod 2147483563).fdiv 17) (j := many) (by omega)
    rw [hr] at md1
    refine ⟨_, h.set n [.int p0, .int r], f3, f4, .inr ⟨_, rfl, _, _, rfl, f1, by omega⟩, ?_⟩
    rw [un e _ _ _ rfl (of_decide_eq_true rfl)]
    simp [F_law_draw, Ss.ev, S.ev, Hs.ev, E.ev, Es.ev, T.ev, Pt.put, Pts.put, Pts.len, Es.len, Oe.ev, It.ev, bind_ok, bind_err, bind_bad, th_ok, th_err, th_bad, nxth, retth, errth, badth, noerr_ok, fin_nx, fin_ret, fin_err, tidy_same, tidyX_same, List.getElem?_cons_zero, List.getElem?_cons_succ, List.set_cons_zero, List.set_cons_succ, itr0 e0, itr1 e0, itr1 e2, gt_i, z, sei1 e0, tidy_len, bin_mul', add_int, bin_mod', bin_div', m1, m2, dv, md1, md2, md3]
theorem sum_ref {h : Hc} {n : Nat} {ms : List Int} (e : h[n]? = some (iZ ms)) : bi .sum [.ref n] h = .ok (.int ms.sum) h := by
  show (match (h[n]?).bind intsC with
    | some ns => R.ok (C.int ns.sum) h
    | none => .bad) = _
  rw [e]
  show (match intsC (iZ ms) with
    | some ns => R.ok (C.int ns.sum) h
    | none => .bad) = _
  rw [iZ_iZ]
theorem pow18 (h : Hc) : binop .pow (.int 10) (.int 18) h = .ok (.int 1000000000000000000) h := rfl
theorem pow6 (h : Hc) : binop .pow (.int 10) (.int 6) h = .ok (.int 1000000) h := rfl
theorem max_int (h : Hc) (i j : Int) : bi .max2 [.int i, .int j] h = .ok (.int (if j > i then j else i)) h := rfl
theorem len_frz (h : Hc) (xs : List C) : bi .len [.frz xs] h = .ok (.int xs.length) h := rfl
theorem slc_frz (h : Hc) (xs : List C) (a b : Option Int) : slice (.frz xs) a b h = .ok (.ref h.length) (h ++ [cutC xs a b]) := rfl
theorem cut_iZ (ns : List Int) (a b : Option Int) : ∃ ms : List Int, cutC (iZ ns) a b = iZ ms := by
  refine ⟨(ns.drop (sIxC ns.length 0 a)).take (sIxC ns.length ns.length b - sIxC ns.length 0 a), ?_⟩
  unfold cutC
  rw [iZ_len, iZ_drop, iZ_take]
theorem len2 (a b : C) : ([a, b] : List C).length ≤ lineN := by show 2 ≤ lineN; decide
theorem pot_run {i : Nat} (e : fns i = some F_law_pot) (d : Nat) (h : Hc) (ns : List Int) (k : Nat) (hk : k < 100) (cl : ClH h) : ∃ n h', PotAt h' n ∧ ClH h' ∧ run fns sub w (d + 1) i [.frz (iZ ns), .int (k : Int)] h = .ok (.ref n) h' := by
  have key : ∀ (cell : Int), ∃ s : Int, (cell.fmod 2147483549 * 40014 + 9221 * k + 57).fmod 2147483563 + 1 = s ∧ Pot [.int (if cell - 1000000000000000000 > 0 then cell - 1000000000000000000 else 0), .int s] := fun cell => by
    obtain ⟨f3, f4⟩ := fmod_b (cell.fmod 2147483549 * 40014 + 9221 * k + 57) (by decide : (0 : Int) < 2147483563)
    exact ⟨_, rfl, _, _, rfl, by omega, by omega⟩
  have bounds : ∀ cell : Int, Bd 80 (cell.fmod 2147483549) := fun cell => by
    obtain ⟨f1, f2⟩ := fmod_b cell (by decide : (0 : Int) < 2147483549)
    exact bd_small (by omega) (by omega)
  have m2 := mul_of (i := 9221) (j := (k : Int)) (bd_small (by omega) (by omega)) (bd_small (by omega) (by omega)) (by decide) (by decide)
  have m3 := mul_of (i := 613) (j := (k : Int)) (bd_small (by omega) (by omega)) (bd_small (by omega) (by omega)) (by decide) (by decide)
  have md1 := fun (i : Int) => mod_of (i := i) (j := 2147483549) (by decide)
  have md2 := fun (i : Int) => mod_of (i := i) (j := 2147483563) (by decide)
  have md3 := fun (i : Int) => mod_of (i := i) (j := 1000003) (by decide)
  have m1 := fun (i : Int) => mul_of (j := 40014) (bounds i) (bd_small (by omega) (by omega)) (by decide) (by decide)
  rw [un e _ _ _ rfl (of_decide_eq_true rfl)]
  simp only [F_law_pot, List.map_cons, List.map_nil, List.replicate, List.cons_append, List.nil_append, Nat.reduceSub]
  by_cases z : k < ns.length
  · have zi : ((k : Int) < ((iZ ns).length : Int)) := by rw [iZ_len]; omega
    have e1 : item (.frz (iZ ns)) (.int (k : Int)) h = .ok (.int (gI ns k)) h := item_iZ k rfl z
    generalize hc : (if gI ns k < 0 then -gI ns k else gI ns k) = cell
    obtain ⟨s, s3, s1⟩ := key cell
    refine ⟨h.length, h ++ [[.int (if cell - 1000000000000000000 > 0 then cell - 1000000000000000000 else 0), .int s]], ⟨_, last_get _ _, s1⟩, cl_push cl (s1.under _), ?_⟩
    simp only [Ss.ev, S.ev, Hs.ev, E.ev, Es.ev, T.ev, Pt.put, Pts.put, Pts.len, Es.len, Oe.ev, It.ev, bind_ok, bind_err, bind_bad, th_ok, th_err, th_bad, nxth, retth, errth, badth, noerr_ok, fin_nx, fin_ret, fin_err, tidy_same, tidyX_same, List.getElem?_cons_zero, List.getElem?_cons_succ, List.set_cons_zero, List.set_cons_succ, lt_i, len_frz, zi, decide_true, if_true, e1, abs_i, hc, bin_mod', md1, bin_mul', m1, m2, add_int, md2, pow18, sub_int, max_int, s3]
    simp only [len2, if_true, Ss.ev, S.ev, Hs.ev, E.ev, Es.ev, T.ev, Pt.put, Pts.put, Pts.len, Es.len, Oe.ev, It.ev, bind_ok, bind_err, bind_bad, th_ok, th_err, th_bad, nxth, retth, errth, badth, noerr_ok, fin_nx, fin_ret, fin_err, tidy_same, tidyX_same, List.getElem?_cons_zero, List.getElem?_cons_succ, List.set_cons_zero, List.set_cons_succ]
    exact tidy_ref (Nat.le_refl _)
  · have zi : ¬ ((k : Int) < ((iZ ns).length : Int)) := by rw [iZ_len]; omega
    obtain ⟨ms, hms⟩ := cut_iZ ns none (some 1)
    have e1 := sum_ref (last_get h (iZ ms))
    generalize hc : 613 * (k : Int) + 29 + ms.sum.fmod 1000003 = cell
    obtain ⟨s, s3, s1⟩ := key cell
    refine ⟨(h ++ [iZ ms]).length, h ++ [iZ ms] ++ [[.int (if cell - 1000000000000000000 > 0 then cell - 1000000000000000000 else 0), .int s]], ⟨_, last_get _ _, s1⟩, cl_push (cl_push cl (iZ_unders _ _)) (s1.under _), ?_⟩
    simp only [Ss.ev, S.ev, Hs.ev, E.ev, Es.ev, T.ev, Pt.put, Pts.put, Pts.len, Es.len, Oe.ev, It.ev, bind_ok, bind_err, bind_bad, th_ok, th_err, th_bad, nxth, retth, errth, badth, noerr_ok, fin_nx, fin_ret, fin_err, tidy_same, tidyX_same, List.getElem?_cons_zero, List.getElem?_cons_succ, List.set_cons_zero, List.set_cons_succ, lt_i, len_frz, zi, decide_false, if_false, Bool.false_eq_true, bin_mul', m3, add_int, slc_frz, hms, e1, bin_mod', md3, hc, md1, m1, m2, md2, pow18, sub_int, max_int, s3]
    simp only [len2, if_true, Ss.ev, S.ev, Hs.ev, E.ev, Es.ev, T.ev, Pt.put, Pts.put, Pts.len, Es.len, Oe.ev, It.ev, bind_ok, bind_err, bind_bad, th_ok, th_err, th_bad, nxth, retth, errth, badth, noerr_ok, fin_nx, fin_ret, fin_err, tidy_same, tidyX_same, List.getElem?_cons_zero, List.getElem?_cons_succ, List.set_cons_zero, List.set_cons_succ]
    exact tidy_ref (by simp)
/-! ### lists told and due -/
theorem so_IP : PyData.strOk (Str.ofString "InvalidPolynomial") = true := by decide +kernel
theorem so_NM : PyData.strOk (Str.ofString "NotMonic") = true := by decide +kernel
theorem so_nil : PyData.strOk (Str.ofString "") = true := by decide +kernel
theorem ceq_str (hh : Hc) (n : Nat) (x : Str) (hx : PyData.strOk x = true) : ceq hh (n + 1) (.str x) (.str x) = some true := by
  show eqFar hh (n + 1) (.str x) (.str x) = _
  unfold eqFar
  simp [toD, SeqAt.shaped, PyData.canLay0, PyData.depth, PyData.eqv, hx]
theorem ceq_bl (hh : Hc) (n : Nat) (x : Bool) : ceq hh (n + 1) (.bl x) (.bl x) = some true := by
  show eqFar hh (n + 1) (.bl x) (.bl x) = _
  unfold eqFar
  simp [toD, SeqAt.shaped, PyData.canLay0, PyData.depth, PyData.eqv]
theorem ceq_rep (hh : Hc) (n : Nat) (d : PyData) (hd : d.hasDict = false) : ceq hh (n + 1) (.rep d) (.rep d) = some true := by
  show (if pdEq d d then some true else eqFar hh (n + 1) _ _) = _
  rw [pd_refl d hd]
  rfl
theorem ne_lists {hh : Hc} {a b : Nat} {L : List C} (ha : hh[a]? = some L) (hb : hh[b]? = some L) (hL : both (ceq hh 39) L L = some true) : cmpop .ne (.ref a) (.ref b) hh = .ok (.bl false) hh := by
  have e : ceq hh 40 (.ref a) (.ref b) = some true := by
    show (match hh[a]?, hh[b]? with
      | some xs, some ys => if xs.length = ys.length then both (ceq hh 39) xs ys else eqFar hh 40 (.ref a) (.ref b)
      | _, _ => none) = _
    rw [ha, hb]
    show (if L.length = L.length then both (ceq hh 39) L L else _) = _
    rw [if_pos rfl, hL]
  show (match ceq hh 40 (.ref a) (.ref b) with
      | some b => R.ok (C.bl (!b)) hh
      | none => .bad) = _
  rw [e]
  rfl
theorem both3 (hh : Hc) (a b c : C) (ha : ceq hh 39 a a = some true) (hb : ceq hh 39 b b = some true) (hc : ceq hh 39 c c = some true) : both (ceq hh 39) [a, b, c] [a, b, c] = some true := by
  simp [both, ha, hb, hc]
theorem due_ok (h : Hc) (L : List C) (hL : ∀ hh, both (ceq hh 39) L L = some true) : cmpop .ne (.ref h.length) (.ref (h ++ [L]).length) ((h ++ [L]) ++ [L]) = .ok (.bl false) ((h ++ [L]) ++ [L]) :=
  ne_lists (L := L) (by rw [List.append_assoc, List.getElem?_append_right (Nat.le_refl _)]; simp) (by rw [List.getElem?_append_right (Nat.le_refl _)]; simp) (hL _)
theorem line3 : (3 : Nat) ≤ lineN := by decide
theorem len3 (a b c : C) : ([a, b, c] : List C).length ≤ lineN := by show 3 ≤ lineN; decide
theorem repr_of {hh : Hc} {c : C} {dv : PyData} (e : datum hh c = some dv) (k : (dv.showable && SeqAt.shaped dv && shortD dv) = true) : bi .repr [c] hh = .ok (.rep dv) hh := by
  show (match datum hh c with
      | some d => if d.showable && SeqAt.shaped d && shortD d then R.ok (C.rep d) hh else .bad
      | none => .bad) = _
  rw [e]
  show (if (dv.showable && SeqAt.shaped dv && shortD dv) = true then R.ok (C.rep dv) hh else .bad) = _
  rw [if_pos k]
theorem add_ref {h : Hc} {a b : Nat} {xs ys : List C} (ha : h[a]? = some xs) (hb : h[b]? = some ys) (hl : xs.length + ys.length ≤ 1000) : binop .add (.ref a) (.ref b) h = .ok (.ref h.length) (h ++ [xs ++ ys]) := by
  show (match h[a]?, h[b]? with
    | some xs, some ys => if lineN < xs.length + ys.length then R.bad else .ok (C.ref h.length) (h ++ [xs ++ ys])
    | _, _ => .bad) = _
  rw [ha, hb]
  show (if lineN < xs.length + ys.length then R.bad else _) = _
  rw [if_neg (Nat.not_lt.mpr (Nat.le_trans hl (by decide)))]
theorem add_tup (h : Hc) (xs ys : List C) (hl : xs.length + ys.length ≤ 1000) : binop .add (.tup xs) (.tup ys) h = .ok (.tup (xs ++ ys)) h := by
  show (if lineN < xs.length + ys.length then R.bad else .ok (C.tup (xs ++ ys)) h) = _
  rw [if_neg (Nat.not_lt.mpr (Nat.le_trans hl (by decide)))]
theorem item_refN {h : Hc} {n j : Nat} {xs : List C} {c : C} {i : Int} (e : h[n]? = some xs) (hi : i = (j : Int)) (hc : xs[j]? = some c) : item (.ref n) (.int i) h = .ok c h := by
  subst hi
  exact item_of (seq_ref e) (by rw [ix_nat, if_pos (List.getElem?_eq_some_iff.mp hc).1]) hc
end
end Sh
set_option linter.all false
set_option autoImplicit false
set_option maxRecDepth 100000
set_option maxHeartbeats 16000000
/-! Sh, part Z: sums, products, slopes and worths of rows. -/
namespace Sh
open PySem
def P_added_1 : Pt := (.tup (.cons (.v 3) (.cons (.v 4) .nil)))
def L_added_2 : Ss := (.cons (.augi (.var 2) (.var 3) .add (.var 4)) .nil)
def F_added (j_trimmed j_added : Nat) : Fn := ⟨5, 2, (.cons (.ifs (.cmp .lt (.bi .len (.cons (.var 0) .nil)) (.bi .len (.cons (.var 1) .nil))) (.cons (.ret (.call j_added (.cons (.var 1) (.cons (.var 0) .nil)))) .nil) .nil) (.cons (.asg (.v 2) (.bi .list (.cons (.var 0) .nil))) (.cons (.for_ P_added_1 (.enum (.var 1)) L_added_2) (.cons (.ret (.call j_trimmed (.cons (.var 2) .nil))) .nil))))⟩
def C_negated_1 : E := (.neg (.var 1))
def P_negated_2 : Pt := (.v 1)
def F_negated : Fn := ⟨2, 1, (.cons (.ret (.bi .tuple (.cons (.comp C_negated_1 P_negated_2 (.seq (.var 0)) .yes) .nil))) .nil)⟩
def P_multiplied_1 : Pt := (.tup (.cons (.v 3) (.cons (.v 4) .nil)))
def P_multiplied_2 : Pt := (.tup (.cons (.v 5) (.cons (.v 6) .nil)))
def L_multiplied_3 : Ss := (.cons (.augi (.var 2) (.bin .add (.var 3) (.var 5)) .add (.bin .mul (.var 4) (.var 6))) .nil)
def L_multiplied_4 : Ss := (.cons (.ifs (.tr (.var 4)) (.cons (.for_ P_multiplied_2 (.enum (.var 1)) L_multiplied_3) .nil) .nil) .nil)
def F_multiplied : Fn := ⟨7, 2, (.cons (.ifs (.or (.not (.tr (.var 0))) (.not (.tr (.var 1)))) (.cons (.ret (.tup .nil)) .nil) .nil) (.cons (.asg (.v 2) (.bin .mul (.lst (.cons (.con (.int 0)) .nil)) (.bin .sub (.bin .add (.bi .len (.cons (.var 0) .nil)) (.bi .len (.cons (.var 1) .nil))) (.con (.int 1))))) (.cons (.for_ P_multiplied_1 (.enum (.var 0)) L_multiplied_4) (.cons (.ret (.bi .tuple (.cons (.var 2) .nil))) .nil))))⟩
def C_slope_1 : E := (.bin .mul (.var 1) (.var 2))
def P_slope_2 : Pt := (.tup (.cons (.v 1) (.cons (.v 2) .nil)))
def T_slope_3 : T := (.tr (.var 1))
def F_slope : Fn := ⟨3, 1, (.cons (.ret (.bi .tuple (.cons (.comp C_slope_1 P_slope_2 (.enum (.var 0)) T_slope_3) .nil))) .nil)⟩
def P_worth_times_1 : Pt := (.v 5)
def L_worth_times_2 : Ss := (.cons (.asg (.v 3) (.bin .add (.bin .mul (.var 3) (.var 1)) (.bin .mul (.var 5) (.var 4)))) (.cons (.aug 4 .mul (.var 2)) .nil))
def F_worth_times : Fn := ⟨6, 3, (.cons (.asg (.v 3) (.con (.int 0))) (.cons (.asg (.v 4) (.con (.int 1))) (.cons (.for_ P_worth_times_1 (.rev (.var 0)) L_worth_times_2) (.cons (.ret (.var 3)) .nil))))⟩
def F_is_ratio (j_is_integer : Nat) : Fn := ⟨3, 1, (.cons (.ifs (.or (.not (.tr (.isi (.var 0) .tuple))) (.cmp .ne (.bi .len (.cons (.var 0) .nil)) (.con (.int 2)))) (.cons (.ret (.con (.bl false))) .nil) .nil) (.cons (.asg (.tup (.cons (.v 1) (.cons (.v 2) .nil))) (.var 0)) (.cons (.ifs (.or (.not (.tr (.call j_is_integer (.cons (.var 1) .nil)))) (.not (.tr (.call j_is_integer (.cons (.var 2) .nil))))) (.cons (.ret (.con (.bl false))) .nil) .nil) (.cons (.ret (.andv (.cmp .ge (.var 2) (.con (.int 1))) (.cmp .eq (.bi .gcd (.cons (.var 1) (.cons (.var 2) .nil))) (.con (.int 1))))) .nil))))⟩
def F_check_ratio (j_is_ratio x_InvalidRatio : Nat) : Fn := ⟨1, 1, (.cons (.ifs (.not (.tr (.call j_is_ratio (.cons (.var 0) .nil)))) (.cons (.raise x_InvalidRatio (.cons (.var 0) .nil)) .nil) .nil) .nil)⟩
def F_lowest : Fn := ⟨3, 2, (.cons (.asg (.v 2) (.bi .gcd (.cons (.var 0) (.cons (.var 1) .nil)))) (.cons (.ifs (.cmp .lt (.var 1) (.con (.int 0))) (.cons (.asg (.v 2) (.neg (.var 2))) .nil) .nil) (.cons (.ret (.tup (.cons (.bin .div (.var 0) (.var 2)) (.cons (.bin .div (.var 1) (.var 2)) .nil)))) .nil)))⟩
def F_poly_plus (j_added j_check_polynomial : Nat) : Fn := ⟨2, 2, (.cons (.expr (.call j_check_polynomial (.cons (.var 0) .nil))) (.cons (.expr (.call j_check_polynomial (.cons (.var 1) .nil))) (.cons (.ret (.call j_added (.cons (.var 0) (.cons (.var 1) .nil)))) .nil)))⟩
def F_poly_minus (j_added j_negated j_check_polynomial : Nat) : Fn := ⟨2, 2, (.cons (.expr (.call j_check_polynomial (.cons (.var 0) .nil))) (.cons (.expr (.call j_check_polynomial (.cons (.var 1) .nil))) (.cons (.ret (.call j_added (.cons (.var 0) (.cons (.call j_negated (.cons (.var 1) .nil)) .nil)))) .nil)))⟩
def F_poly_times (x_TooMany j_multiplied j_check_polynomial : Nat) : Fn := ⟨3, 2, (.cons (.expr (.call j_check_polynomial (.cons (.var 0) .nil))) (.cons (.expr (.call j_check_polynomial (.cons (.var 1) .nil))) (.cons (.asg (.v 2) (.call j_multiplied (.cons (.var 0) (.cons (.var 1) .nil)))) (.cons (.ifs (.cmp .gt (.bi .len (.cons (.var 2) .nil)) (.glob "MOST_NUMBERS" (.int 13))) (.cons (.raise x_TooMany (.cons (.con (.str "degree")) (.cons (.glob "MOST_DEGREE" (.int 12)) .nil))) .nil) .nil) (.cons (.ret (.var 2)) .nil)))))⟩
def P_poly_worth_1 : Pt := (.v 3)
def L_poly_worth_2 : Ss := (.cons (.aug 2 .mul (.idx (.var 1) (.con (.int 1)))) .nil)
def F_poly_worth (j_lowest j_worth_times j_check_ratio j_check_polynomial : Nat) : Fn := ⟨4, 2, (.cons (.expr (.call j_check_polynomial (.cons (.var 0) .nil))) (.cons (.expr (.call j_check_ratio (.cons (.var 1) .nil))) (.cons (.asg (.v 2) (.con (.int 1))) (.cons (.for_ P_poly_worth_1 (.rng1 (.bin .sub (.bi .len (.cons (.var 0) .nil)) (.con (.int 1)))) L_poly_worth_2) (.cons (.ret (.call j_lowest (.cons (.call j_worth_times (.cons (.var 0) (.cons (.idx (.var 1) (.con (.int 0))) (.cons (.idx (.var 1) (.con (.int 1))) .nil)))) (.cons (.var 2) .nil)))) .nil)))))⟩
def F_poly_slope (j_slope j_check_polynomial : Nat) : Fn := ⟨1, 1, (.cons (.expr (.call j_check_polynomial (.cons (.var 0) .nil))) (.cons (.ret (.call j_slope (.cons (.var 0) .nil))) .nil))⟩

def P_law_product_1 : Pt := (.tup (.cons (.v 3) (.cons (.v 4) .nil)))
def P_law_product_2 : Pt := (.tup (.cons (.v 5) (.cons (.v 6) .nil)))
def L_law_product_3 : Ss := (.cons (.augi (.var 2) (.bin .add (.var 3) (.var 5)) .add (.bin .mul (.var 4) (.var 6))) .nil)
def L_law_product_4 : Ss := (.cons (.for_ P_law_product_2 (.enum (.var 1)) L_law_product_3) .nil)
def F_law_product (j_law_cut : Nat) : Fn := ⟨7, 2, (.cons (.asg (.v 2) (.bin .mul (.lst (.cons (.con (.int 0)) .nil)) (.bin .add (.bi .len (.cons (.var 0) .nil)) (.bi .len (.cons (.var 1) .nil))))) (.cons (.for_ P_law_product_1 (.enum (.var 0)) L_law_product_4) (.cons (.ret (.call j_law_cut (.cons (.var 2) .nil))) .nil)))⟩

/-! ### sums of numbers -/
def sT (f : Nat → Int) : Nat → Int
  | 0 => 0
  | n + 1 => sT f n + f n
theorem sT_head (f : Nat → Int) : ∀ n, sT f (n + 1) = f 0 + sT (fun k => f (k + 1)) n
  | 0 => by show 0 + f 0 = f 0 + 0; omega
  | n + 1 => by
    show sT f (n + 1) + f (n + 1) = f 0 + (sT (fun k => f (k + 1)) n + f (n + 1))
    rw [sT_head f n]; omega
theorem sT_congr {f g : Nat → Int} : ∀ n, (∀ k, k < n → f k = g k) → sT f n = sT g n
  | 0, _ => rfl
  | n + 1, h => by
    show sT f n + f n = sT g n + g n
    rw [sT_congr n fun k hk => h k (by omega), h n (by omega)]
theorem sT_mul (c : Int) (f : Nat → Int) : ∀ n, sT (fun k => c * f k) n = c * sT f n
  | 0 => by show (0 : Int) = c * 0; rw [Int.mul_zero]
  | n + 1 => by
    show sT (fun k => c * f k) n + c * f n = c * (sT f n + f n)
    rw [sT_mul c f n, Int.mul_add]
theorem sT_add (f g : Nat → Int) : ∀ n, sT (fun k => f k + g k) n = sT f n + sT g n
  | 0 => rfl
  | n + 1 => by
    show sT (fun k => f k + g k) n + (f n + g n) = sT f n + f n + (sT g n + g n)
    rw [sT_add f g n]; omega
theorem sT_more (f : Nat → Int) (m : Nat) (h : ∀ k, m ≤ k → f k = 0) : ∀ j, sT f (m + j) = sT f m
  | 0 => rfl
  | j + 1 => by
    show sT f (m + j) + f (m + j) = _
    rw [sT_more f m h j, h _ (by omega), Int.add_zero]
/-! ### the worth, and what the scale is behind so many numbers -/
def wt (p u : Int) : List Int → Int × Int
  | [] => (0, 1)
  | x :: r => ((wt p u r).1 * p + x * (wt p u r).2, (wt p u r).2 * u)
theorem wt_scale (p u : Int) : ∀ xs : List Int, (wt p u xs).2 = u ^ xs.length
  | [] => by show (1 : Int) = u ^ 0; rw [Int.pow_zero]
  | x :: r => by
    show (wt p u r).2 * u = u ^ (r.length + 1)
    rw [wt_scale p u r, Int.pow_succ]
theorem wt_sum (p u : Int) : ∀ xs : List Int, (wt p u xs).1 = sT (fun k => gI xs k * p ^ k * u ^ (xs.length - 1 - k)) xs.length
  | [] => rfl
  | x :: r => by
    show (wt p u r).1 * p + x * (wt p u r).2 = _
    rw [List.length_cons, sT_head, wt_sum p u r, wt_scale, Int.add_comm]
    congr 1
    · show x * u ^ r.length = x * p ^ 0 * u ^ (r.length + 1 - 1 - 0)
      rw [Int.pow_zero, Int.mul_one]; rfl
    · rw [Int.mul_comm, ← sT_mul]
      refine sT_congr _ fun k hk => ?_
      show p * (gI r k * p ^ k * u ^ (r.length - 1 - k)) = gI r k * p ^ (k + 1) * u ^ (r.length + 1 - 1 - (k + 1))
      rw [show r.length + 1 - 1 - (k + 1) = r.length - 1 - k by omega, Int.pow_succ]
      grind
theorem bd_pow {u : Int} {b : Nat} (h : Bd b u) (hb : 0 < b) : ∀ n, Bd (b * n + 1) (u ^ n)
  | 0 => by rw [Int.pow_zero, Nat.mul_zero]; exact Nat.lt_of_sub_ne_zero (by decide)
  | n + 1 => by
    rw [Int.pow_succ]
    exact ((bd_pow h hb n).mul h).mono (by rw [Nat.mul_succ]; omega)
theorem wt_bd {p u : Int} (hp : Bd 8 p) (hu : Bd 8 u) (B : Nat) : ∀ xs : List Int, (∀ x ∈ xs, Bd B x) → Bd (B + 10 + 9 * xs.length) (wt p u xs).1
  | [], _ => bd0 _
  | x :: r, h => by
    have ih := wt_bd hp hu B r fun y hy => h y (by simp [hy])
    have s : Bd (8 * r.length + 1) (wt p u r).2 := by rw [wt_scale]; exact bd_pow hu (by decide) _
    have a := (ih.mul hp).mono (b := B + 18 + 9 * r.length) (by omega)
    have b := ((h x (by simp)).mul s).mono (b := B + 18 + 9 * r.length) (by omega)
    exact (a.add b).mono (by rw [List.length_cons]; omega)
/-- the worth at a whole number -/
def evL (t : Int) (xs : List Int) : Int := (wt t 1 xs).1
theorem evL_sum (t : Int) (xs : List Int) (N : Nat) (h : xs.length ≤ N) : evL t xs = sT (fun k => gI xs k * t ^ k) N := by
  unfold evL
  rw [wt_sum, show N = xs.length + (N - xs.length) by omega, sT_more _ _ (fun k hk => by rw [getD_big hk, Int.zero_mul])]
  exact sT_congr _ fun k _ => by rw [Int.one_pow, Int.mul_one]
theorem evL_cv (t : Int) (o : Nat → Int) (m : Nat) (ho : ∀ k, m ≤ k → o k = 0) : ∀ (xs : List Int) (N : Nat), xs.length + m ≤ N → sT (fun k => cv xs o k * t ^ k) N = evL t xs * sT (fun k => o k * t ^ k) m
  | [], N, _ => by
    have : sT (fun k => cv [] o k * t ^ k) N = sT (fun _ => 0) N := sT_congr _ fun k _ => by show (0 : Int) * t ^ k = 0; rw [Int.zero_mul]
    rw [this]
    have z : ∀ n, sT (fun _ => 0) n = 0 := fun n => by
      induction n with
      | zero => rfl
      | succ n ih => show sT (fun _ => 0) n + 0 = 0; rw [ih]; rfl
    rw [z]
    show (0 : Int) = 0 * _
    rw [Int.zero_mul]
  | x :: r, N, hN => by
    have e1 : sT (fun k => cv (x :: r) o k * t ^ k) N = x * sT (fun k => o k * t ^ k) N + sT (fun k => (if k = 0 then 0 else cv r o (k - 1)) * t ^ k) N := by
      rw [← sT_mul, ← sT_add]
      refine sT_congr _ fun k _ => ?_
      show (x * o k + (if k = 0 then 0 else cv r o (k - 1))) * t ^ k = _
      rw [Int.add_mul, Int.mul_assoc]
    have e2 : sT (fun k => o k * t ^ k) N = sT (fun k => o k * t ^ k) m := by
      rw [show N = m + (N - m) by omega, sT_more _ _ (fun k hk => by rw [ho k hk, Int.zero_mul])]
    obtain ⟨M, rfl⟩ : ∃ M, N = M + 1 := ⟨N - 1, by rw [List.length_cons] at hN; omega⟩
    have e3 : sT (fun k => (if k = 0 then 0 else cv r o (k - 1)) * t ^ k) (M + 1) = t * sT (fun k => cv r o k * t ^ k) M := by
      rw [sT_head, ← sT_mul]
      simp only [if_true, Int.zero_mul, Int.zero_add]
      refine sT_congr _ fun k _ => ?_
      show (if k + 1 = 0 then 0 else cv r o (k + 1 - 1)) * t ^ (k + 1) = t * (cv r o k * t ^ k)
      rw [if_neg (by omega), Int.pow_succ, show k + 1 - 1 = k by omega]
      grind
    rw [e1, e2, e3, evL_cv t o m ho r M (by rw [List.length_cons] at hN; omega)]
    show _ = ((wt t 1 r).1 * t + x * (wt t 1 r).2) * _
    rw [wt_scale, Int.one_pow]
    show x * _ + t * ((wt t 1 r).1 * _) = _
    grind
/-- the worth of a product is the product of the worths -/
theorem evL_mul (t : Int) (M xs ys : List Int) (h : ∀ k, gI M k = cv xs (gI ys) k) : evL t M = evL t xs * evL t ys := by
  rw [evL_sum t M (max M.length (xs.length + ys.length)) (by omega), evL_sum t ys ys.length (Nat.le_refl _), ← evL_cv t (gI ys) ys.length (fun k hk => getD_big hk) xs (max M.length (xs.length + ys.length)) (by omega)]
  exact sT_congr _ fun k _ => by rw [h]
/-! ### sums of rows -/
def addZ (xs ys : List Int) : List Int := (List.range (max xs.length ys.length)).map fun k => gI xs k + gI ys k
theorem gI_addZ (xs ys : List Int) (k : Nat) : gI (addZ xs ys) k = gI xs k + gI ys k := by
  unfold addZ
  rw [gI_range]
  split
  · rfl
  · rw [getD_big (show xs.length ≤ k by omega), getD_big (show ys.length ≤ k by omega)]; rfl
theorem addZ_len (xs ys : List Int) : (addZ xs ys).length = max xs.length ys.length := by simp [addZ]
theorem gI_neg (xs : List Int) (k : Nat) : gI (xs.map fun x => -x) k = -gI xs k := by
  unfold gI
  rw [List.getD_eq_getElem?_getD, List.getD_eq_getElem?_getD, List.getElem?_map]
  cases xs[k]? with
  | none => rfl
  | some x => rfl
section
variable {fns : Nat → Option Fn} {sub : Nat → Str → Option Bool} {w : Nat} {h : Hc}
theorem added0 {i jt : Nat} (e : fns i = some (F_added jt i)) (et : fns jt = some F_trimmed) (hw : 1000 < w) (d : Nat) (cl : ClH h) (xs ys : List Int) (hl : ys.length ≤ xs.length) (hx : xs.length ≤ 100) : run fns sub w (d + 2) i [tZ xs, tZ ys] h = .ok (tZ (trimZ (addZ xs ys))) h := by
  obtain ⟨sl', h', l1, ⟨x3, x4, R, l2, l3, l4⟩, _⟩ := forF_gen (it := .ent (iZ ys)) (n := ys.length) (el := fun i => .tup [.int (i : Int), .int (gI ys i)]) (g := Pt.put (run fns sub w (d + 1)) sub w none P_added_1) (b := Ss.ev (run fns sub w (d + 1)) sub w L_added_2 none)
      (fun j sl h' => (∃ x3 x4 R, sl = [some (tZ xs), some (tZ ys), some (.ref h.length), x3, x4] ∧ h' = h ++ [iZ R] ∧ R.length = xs.length ∧ ∀ k, gI R k = gI xs k + (if k < j then gI ys k else 0)) ∧ True)
      (fun i _ h' _ _ => at_entI ys i h') (fun j sl h' ⟨⟨x3, x4, R, a1, a2, a3, a4⟩, _⟩ hj => by
        subst a1 a2
        have i1 : item (.ref h.length) (.int (j : Int)) (h ++ [iZ R]) = .ok (.int (gI R j)) (h ++ [iZ R]) := item_iZ j (seq_ref (last_get _ _)) (by omega)
        have se : setitem (.ref h.length) (.int (j : Int)) (.int (gI R j + gI ys j)) (h ++ [iZ R]) = .ok () (h ++ [iZ (R.set j (gI R j + gI ys j))]) := by
          rw [setitem_iZ (last_get _ _) (by omega)]; simp
        refine ⟨[some (tZ xs), some (tZ ys), some (.ref h.length), some (.int (j : Int)), some (.int (gI ys j))], h ++ [iZ R], [some (tZ xs), some (tZ ys), some (.ref h.length), some (.int (j : Int)), some (.int (gI ys j))], h ++ [iZ (R.set j (gI R j + gI ys j))], rfl, .inl ?_, ⟨⟨_, _, _, rfl, rfl, by simp [a3], fun k => ?_⟩, trivial⟩⟩
        · simp only [L_added_2, Ss.ev, S.ev, Hs.ev, E.ev, Es.ev, T.ev, Pt.put, Pts.put, Pts.len, Es.len, Oe.ev, It.ev, bind_ok, bind_err, bind_bad, th_ok, th_err, th_bad, nxth, retth, errth, badth, noerr_ok, fin_nx, fin_ret, fin_err, tidy_same, tidyX_same, List.getElem?_cons_zero, List.getElem?_cons_succ, List.set_cons_zero, List.set_cons_succ, i1, aug_add, se]
        · rw [gI_set, a4 k]
          by_cases h1 : k = j
          · rw [if_pos ⟨h1, by omega⟩, h1, a4 j, if_neg (by omega), if_pos (by omega)]; omega
          · rw [if_neg (fun z => h1 z.1)]
            by_cases h2 : k < j
            · rw [if_pos h2, if_pos (show k < j + 1 by omega)]
            · rw [if_neg h2, if_neg (show ¬ k < j + 1 by omega)]) w 0 [some (tZ xs), some (tZ ys), some (.ref h.length), none, none] (h ++ [iZ xs]) ⟨⟨_, _, xs, rfl, rfl, rfl, fun k => by simp⟩, trivial⟩ (Nat.zero_le _) (by omega)
  have eR : trimZ R = trimZ (addZ xs ys) := (trim_trim _).uni (trim_trim _) fun k => by
    rw [trim_get, trim_get, gI_addZ, l4.2 k]
    split
    · rfl
    · rw [getD_big (show ys.length ≤ k by omega)]
  have tr := trimmed_run (sub := sub) (w := w) et d h.length (h ++ [iZ R]) R (last_get _ _) (cl_push cl (iZ_unders _ _)) (by omega)
  rw [eR] at tr
  rw [un e _ _ _ rfl (of_decide_eq_true rfl)]
  simp only [F_added, List.map_cons, List.map_nil, List.replicate, List.cons_append, List.nil_append, Nat.reduceSub, ss_cons, ss_nil]
  have c1 : ¬ ((xs.length : Int) < (ys.length : Int)) := by omega
  have s3 : S.ev (run fns sub w (d + 1)) sub w (.for_ P_added_1 (.enum (.var 1)) L_added_2) none [some (tZ xs), some (tZ ys), some (.ref h.length), none, none] (h ++ [iZ xs]) = .nx sl' h' := l1
  have s1 : S.ev (run fns sub w (d + 1)) sub w (.ifs (.cmp .lt (.bi .len (.cons (.var 0) .nil)) (.bi .len (.cons (.var 1) .nil))) (.cons (.ret (.call i (.cons (.var 1) (.cons (.var 0) .nil)))) .nil) .nil) none [some (tZ xs), some (tZ ys), none, none, none] h = .nx [some (tZ xs), some (tZ ys), none, none, none] h := by
    simp only [Ss.ev, S.ev, Hs.ev, E.ev, Es.ev, T.ev, Pt.put, Pts.put, Pts.len, Es.len, Oe.ev, It.ev, bind_ok, bind_err, bind_bad, th_ok, th_err, th_bad, nxth, retth, errth, badth, noerr_ok, fin_nx, fin_ret, fin_err, tidy_same, tidyX_same, List.getElem?_cons_zero, List.getElem?_cons_succ, List.set_cons_zero, List.set_cons_succ, len_tZ, lt_i, c1, decide_false, Bool.false_eq_true, if_false]
  have s2 : S.ev (run fns sub w (d + 1)) sub w (.asg (.v 2) (.bi .list (.cons (.var 0) .nil))) none [some (tZ xs), some (tZ ys), none, none, none] h = .nx [some (tZ xs), some (tZ ys), some (.ref h.length), none, none] (h ++ [iZ xs]) := by
    simp only [Ss.ev, S.ev, Hs.ev, E.ev, Es.ev, T.ev, Pt.put, Pts.put, Pts.len, Es.len, Oe.ev, It.ev, bind_ok, bind_err, bind_bad, th_ok, th_err, th_bad, nxth, retth, errth, badth, noerr_ok, fin_nx, fin_ret, fin_err, tidy_same, tidyX_same, List.getElem?_cons_zero, List.getElem?_cons_succ, List.set_cons_zero, List.set_cons_succ, list_of (seq_tZ h xs)]
  rw [s1, nxth, s2, nxth, s3, nxth, l2, l3]
  simp only [Ss.ev, S.ev, Hs.ev, E.ev, Es.ev, T.ev, Pt.put, Pts.put, Pts.len, Es.len, Oe.ev, It.ev, bind_ok, bind_err, bind_bad, th_ok, th_err, th_bad, nxth, retth, errth, badth, noerr_ok, fin_nx, fin_ret, fin_err, tidy_same, tidyX_same, List.getElem?_cons_zero, List.getElem?_cons_succ, List.set_cons_zero, List.set_cons_succ, tr]
  exact tidy_cl cl _ _ (iZ_unders _ _)
theorem added_run {i jt : Nat} (e : fns i = some (F_added jt i)) (et : fns jt = some F_trimmed) (hw : 1000 < w) (d : Nat) (cl : ClH h) (xs ys : List Int) (hx : xs.length ≤ 100) (hy : ys.length ≤ 100) : run fns sub w (d + 3) i [tZ xs, tZ ys] h = .ok (tZ (trimZ (addZ xs ys))) h := by
  by_cases hl : ys.length ≤ xs.length
  · exact added0 e et hw (d + 1) cl xs ys hl hx
  · have r := added0 (sub := sub) e et hw d cl ys xs (by omega) hy
    have eR : trimZ (addZ ys xs) = trimZ (addZ xs ys) := (trim_trim _).uni (trim_trim _) fun k => by rw [trim_get, trim_get, gI_addZ, gI_addZ, Int.add_comm]
    rw [eR] at r
    rw [un e _ _ _ rfl (of_decide_eq_true rfl)]
    have c1 : ((xs.length : Int) < (ys.length : Int)) := by omega
    simp only [F_added, List.map_cons, List.map_nil, List.replicate, List.cons_append, List.nil_append, Nat.reduceSub, Ss.ev, S.ev, Hs.ev, E.ev, Es.ev, T.ev, Pt.put, Pts.put, Pts.len, Es.len, Oe.ev, It.ev, bind_ok, bind_err, bind_bad, th_ok, th_err, th_bad, nxth, retth, errth, badth, noerr_ok, fin_nx, fin_ret, fin_err, tidy_same, tidyX_same, List.getElem?_cons_zero, List.getElem?_cons_succ, List.set_cons_zero, List.set_cons_succ, len_tZ, lt_i, c1, decide_true, if_true, r]
theorem negated_run {i : Nat} (e : fns i = some F_negated) (hw : 1000 < w) (d : Nat) (cl : ClH h) (xs : List Int) (hx : xs.length ≤ 100) : run fns sub w (d + 1) i [tZ xs] h = .ok (tZ (xs.map fun x => -x)) h := by
  have ci := compF_map (it := .tre (iZ xs)) (n := xs.length) (el := fun i => .int (gI xs i)) (ev := fun i => .int (-gI xs i)) (g := fun c sl h => Pt.put (run fns sub w d) sub w none P_negated_2 c sl h) (t := fun sl h => T.ev (run fns sub w d) sub w none .yes sl h) (e := fun sl h => E.ev (run fns sub w d) sub w none C_negated_1 sl h) (sl := [some (tZ xs), none]) (h := h) (by omega) (fun i _ => at_treI xs i _) (fun i hi => ⟨[some (tZ xs), some (.int (gI xs i))], rfl, rfl, rfl⟩) w (by omega)
  have eq : (List.range xs.length).map (fun i => C.int (-gI xs i)) = iZ (xs.map fun x => -x) := by
    conv => rhs; rw [row_eq xs]
    simp [iZ, List.map_map]
  rw [eq] at ci
  rw [un e _ _ _ rfl (of_decide_eq_true rfl)]
  simp only [F_negated, List.map_cons, List.map_nil, List.replicate, List.cons_append, List.nil_append, Nat.reduceSub, ss_cons, ss_nil]
  rw [S.ev, E.ev, Es.ev, E.ev, show It.ev (run fns sub w d) sub w none (.seq (.var 0)) [some (tZ xs), none] h = .ok (.tre (iZ xs)) h from rfl, bind_ok]
  rw [show Pt.wipe P_negated_2 [some (tZ xs), none] = [some (tZ xs), none] from rfl, ci, noerr_ok, bind_ok, bind_ok]
  simp only [Ss.ev, S.ev, Hs.ev, E.ev, Es.ev, T.ev, Pt.put, Pts.put, Pts.len, Es.len, Oe.ev, It.ev, bind_ok, bind_err, bind_bad, th_ok, th_err, th_bad, nxth, retth, errth, badth, noerr_ok, fin_nx, fin_ret, fin_err, tidy_same, tidyX_same, List.getElem?_cons_zero, List.getElem?_cons_succ, List.set_cons_zero, List.set_cons_succ, tuple_ref (last_get h _)]
  exact tidy_cl cl _ _ (iZ_unders _ _)
/-! ### products -/
def stP (q o : List Int) (n : Nat) (x3 x4 x5 x6 : Option C) : Sl := [some (tZ q), some (tZ o), some (.ref (n + 1)), x3, x4, x5, x6]
theorem mul_in (d : Nat) (q o R : List Int) (x : Int) (s : Nat) (x5 x6 : Option C) (hR : s + o.length ≤ R.length) (bx : Bd 400 x) (bo : ∀ y ∈ o, Bd 400 y) (hw : 1000 < w) (ho : o.length ≤ 100) :
    ∃ x5' x6', forF (.ent (iZ o)) (Pt.put (run fns sub w d) sub w none P_multiplied_2) (Ss.ev (run fns sub w d) sub w L_multiplied_3 none) w 0 (stP q o h.length (some (.int (s : Int))) (some (.int x)) x5 x6) (hpM h R)
      = .nx (stP q o h.length (some (.int (s : Int))) (some (.int x)) x5' x6') (hpM h (stepL R o (-x) R.length s o.length)) := by
  obtain ⟨sl', h', l1, ⟨x5', x6', l2⟩, l3⟩ := forF_gen (it := .ent (iZ o)) (n := o.length) (el := fun i => .tup [.int (i : Int), .int (gI o i)]) (g := Pt.put (run fns sub w d) sub w none P_multiplied_2) (b := Ss.ev (run fns sub w d) sub w L_multiplied_3 none)
      (fun j sl h' => (∃ x5 x6, sl = stP q o h.length (some (.int (s : Int))) (some (.int x)) x5 x6) ∧ h' = hpM h (stepL R o (-x) R.length s j))
      (fun i _ h' _ _ => at_entI o i h') (fun j sl h' ⟨⟨x5, x6, a1⟩, a2⟩ hj => by
        subst a1 a2
        have e0 : (s : Int) + (j : Int) = ((s + j : Nat) : Int) := by omega
        have i1 : item (.ref (h.length + 1)) (.int ((s + j : Nat) : Int)) (hpM h (stepL R o (-x) R.length s j)) = .ok (.int (gI R (s + j))) (hpM h (stepL R o (-x) R.length s j)) := by
          rw [item_iZ (s + j) (seq_ref (hpM1 _)) (by rw [stepL_len]; omega), stepL_at _ _ _ _ _ _ (by omega)]
        have m1 := mul_of (i := x) (j := gI o j) bx (gI_mem (P := Bd 400) bo (bd0 _) j) (by decide) (by decide)
        have se : setitem (.ref (h.length + 1)) (.int ((s + j : Nat) : Int)) (.int (gI R (s + j) + x * gI o j)) (hpM h (stepL R o (-x) R.length s j)) = .ok () (hpM h (stepL R o (-x) R.length s (j + 1))) := by
          rw [setitem_iZ (hpM1 _) (by rw [stepL_len]; omega), hpMS, ← stepL_set _ _ _ _ _ _ (show s + j < R.length by omega), Int.neg_mul, Int.sub_neg]
        refine ⟨stP q o h.length (some (.int (s : Int))) (some (.int x)) (some (.int (j : Int))) (some (.int (gI o j))), hpM h (stepL R o (-x) R.length s j), stP q o h.length (some (.int (s : Int))) (some (.int x)) (some (.int (j : Int))) (some (.int (gI o j))), hpM h (stepL R o (-x) R.length s (j + 1)), rfl, .inl ?_, ⟨⟨_, _, rfl⟩, rfl⟩⟩
        simp only [L_multiplied_3, stP, Ss.ev, S.ev, Hs.ev, E.ev, Es.ev, T.ev, Pt.put, Pts.put, Pts.len, Es.len, Oe.ev, It.ev, bind_ok, bind_err, bind_bad, th_ok, th_err, th_bad, nxth, retth, errth, badth, noerr_ok, fin_nx, fin_ret, fin_err, tidy_same, tidyX_same, List.getElem?_cons_zero, List.getElem?_cons_succ, List.set_cons_zero, List.set_cons_succ, add_int, e0, i1, bin_mul', m1, aug_add, se]) w 0 (stP q o h.length (some (.int (s : Int))) (some (.int x)) x5 x6) (hpM h R) ⟨⟨_, _, rfl⟩, by rw [stepL_zero]⟩ (Nat.zero_le _) (by omega)
  exact ⟨x5', x6', by rw [l1, l2, l3]⟩
theorem step_cv (q o R R' : List Int) (j N : Nat) (hN : R'.length = N) (hk : ∀ k, k < N → gI R' k = cvF (gI q) (gI o) k j) (k : Nat) (h : k < N) : gI (stepL R' o (-gI q j) R'.length j o.length) k = cvF (gI q) (gI o) k (j + 1) := by
  rw [stepL_get, if_pos (show k < R'.length by omega), hk k h]
  show _ = cvF (gI q) (gI o) k j + gI q j * shf j (gI o) k
  unfold shf
  by_cases h1 : k < j
  · rw [if_neg (show ¬ (j ≤ k ∧ k < j + o.length) by omega), if_pos h1]; simp
  · rw [if_neg h1]
    by_cases h2 : k < j + o.length
    · rw [if_pos (show j ≤ k ∧ k < j + o.length by omega), Int.neg_mul]; omega
    · rw [if_neg (show ¬ (j ≤ k ∧ k < j + o.length) by omega), getD_big (show o.length ≤ k - j by omega)]; simp
/-- a loop over a row's numbers, each times the other row -/
theorem mul_out (d : Nat) (L : Ss) (q o R : List Int) (hL : ∀ (R' : List Int) (j : Nat) (x5 x6 : Option C), j < q.length → R'.length = R.length → (∀ k, k < R.length → gI R' k = cvF (gI q) (gI o) k j) →
      ∃ x5' x6' R2, Ss.ev (run fns sub w d) sub w L none (stP q o h.length (some (.int (j : Int))) (some (.int (gI q j))) x5 x6) (hpM h R') = .nx (stP q o h.length (some (.int (j : Int))) (some (.int (gI q j))) x5' x6') (hpM h R2) ∧ R2.length = R.length ∧ ∀ k, k < R.length → gI R2 k = cvF (gI q) (gI o) k (j + 1))
    (y3 y4 y5 y6 : Option C) (h0 : ∀ k, gI R k = 0) (hw : 1000 < w) (hq : q.length ≤ 100) :
    ∃ x3 x4 x5 x6 R', forF (.ent (iZ q)) (Pt.put (run fns sub w d) sub w none P_multiplied_1) (Ss.ev (run fns sub w d) sub w L none) w 0 (stP q o h.length y3 y4 y5 y6) (hpM h R) = .nx (stP q o h.length x3 x4 x5 x6) (hpM h R')
      ∧ R'.length = R.length ∧ ∀ k, k < R.length → gI R' k = cv q (gI o) k := by
  obtain ⟨sl', h', l1, ⟨x3, x4, x5, x6, R', l2, l3, l4⟩, l5⟩ := forF_gen (it := .ent (iZ q)) (n := q.length) (el := fun i => .tup [.int (i : Int), .int (gI q i)]) (g := Pt.put (run fns sub w d) sub w none P_multiplied_1) (b := Ss.ev (run fns sub w d) sub w L none)
      (fun j sl h' => (∃ x3 x4 x5 x6 R', sl = stP q o h.length x3 x4 x5 x6 ∧ h' = hpM h R' ∧ R'.length = R.length ∧ ∀ k, k < R.length → gI R' k = cvF (gI q) (gI o) k j) ∧ True)
      (fun i _ h' _ _ => at_entI q i h') (fun j sl h' ⟨⟨x3, x4, x5, x6, R', a1, a2, a3, a4⟩, _⟩ hj => by
        subst a1 a2
        obtain ⟨x5', x6', R2, b1, b2, b3⟩ := hL R' j x5 x6 hj a3 a4
        exact ⟨stP q o h.length (some (.int (j : Int))) (some (.int (gI q j))) x5 x6, hpM h R', _, _, rfl, .inl b1, ⟨⟨_, _, _, _, _, rfl, rfl, b2, b3⟩, trivial⟩⟩) w 0 (stP q o h.length y3 y4 y5 y6) (hpM h R) ⟨⟨_, _, _, _, R, rfl, rfl, rfl, fun k _ => h0 k⟩, trivial⟩ (Nat.zero_le _) (by omega)
  exact ⟨x3, x4, x5, x6, R', by rw [l1, l2, l3], l4.1, fun k hk => by rw [l4.2 k hk, cv_cvF]⟩
theorem mul0 (N : Nat) (hN : N ≤ 1000) : mulC (.ref h.length) (.int (N : Int)) (h ++ [iZ [0]]) = .ok (.ref (h.length + 1)) (hpM h (List.replicate N 0)) := by
  show (match (h ++ [iZ [0]])[h.length]? with
    | some xs => if (N : Int) < 0 ∨ lineN < xs.length * (N : Int).toNat ∨ 1000000000 ≤ (N : Int) then R.bad else .ok (C.ref (h ++ [iZ [0]]).length) (h ++ [iZ [0]] ++ [(List.replicate (N : Int).toNat xs).flatten])
    | _ => .bad) = _
  rw [last_get]
  dsimp only
  rw [Int.toNat_natCast, flat_zero, if_neg]
  · simp [hpM]
  · rintro (z | z | z)
    · omega
    · rw [iZ_len] at z
      have : lineN = 1000000 := rfl
      simp at z
      omega
    · omega
theorem multiplied_run {i : Nat} (e : fns i = some F_multiplied) (hw : 1000 < w) (d : Nat) (cl : ClH h) (q o : List Int) (bq : ∀ y ∈ q, Bd 400 y) (bo : ∀ y ∈ o, Bd 400 y) (hq : q.length ≤ 100) (ho : o.length ≤ 100) :
    ∃ M, run fns sub w (d + 1) i [tZ q, tZ o] h = .ok (tZ M) h ∧ (∀ k, gI M k = cv q (gI o) k) ∧ M.length = (if q = [] ∨ o = [] then 0 else q.length + o.length - 1) := by
  rw [un e _ _ _ rfl (of_decide_eq_true rfl)]
  have tq : ∀ xs : List Int, truth (tZ xs) h = .ok (!xs.isEmpty) h := fun xs => by
    show R.ok (!(iZ xs).isEmpty) h = _
    rw [iZ_emp]
  by_cases z : q = [] ∨ o = []
  · refine ⟨[], ?_, fun k => ?_, by rw [if_pos z]; rfl⟩
    · have l0 : ([] : List C).length ≤ lineN := by show 0 ≤ lineN; decide
      rcases z with rfl | rfl
      · simp [F_multiplied, Ss.ev, S.ev, Hs.ev, E.ev, Es.ev, T.ev, Pt.put, Pts.put, Pts.len, Es.len, Oe.ev, It.ev, bind_ok, bind_err, bind_bad, th_ok, th_err, th_bad, nxth, retth, errth, badth, noerr_ok, fin_nx, fin_ret, fin_err, tidy_same, tidyX_same, List.getElem?_cons_zero, List.getElem?_cons_succ, List.set_cons_zero, List.set_cons_succ, tq, l0]; rfl
      · cases hq' : q.isEmpty <;> (simp [F_multiplied, Ss.ev, S.ev, Hs.ev, E.ev, Es.ev, T.ev, Pt.put, Pts.put, Pts.len, Es.len, Oe.ev, It.ev, bind_ok, bind_err, bind_bad, th_ok, th_err, th_bad, nxth, retth, errth, badth, noerr_ok, fin_nx, fin_ret, fin_err, tidy_same, tidyX_same, List.getElem?_cons_zero, List.getElem?_cons_succ, List.set_cons_zero, List.set_cons_succ, tq, l0, hq']; rfl)
    · rcases z with rfl | rfl
      · rfl
      · have : ∀ (xs : List Int) k, cv xs (gI []) k = 0 := fun xs => by
          induction xs with
          | nil => intro k; rfl
          | cons x xs ih =>
            intro k
            show x * 0 + (if k = 0 then 0 else cv xs (gI []) (k - 1)) = 0
            rw [ih]; simp
        rw [this]; rfl
  · have hq0 : q ≠ [] := fun z2 => z (.inl z2)
    have ho0 : o ≠ [] := fun z2 => z (.inr z2)
    have lq : 0 < q.length := List.length_pos_iff.mpr hq0
    have lo : 0 < o.length := List.length_pos_iff.mpr ho0
    obtain ⟨x3, x4, x5, x6, R1, a1, a2, a3⟩ := mul_out (fns := fns) (sub := sub) (w := w) (h := h) d L_multiplied_4 q o (List.replicate (q.length + o.length - 1) 0) (fun R' j x5 x6 hj hl hk => by
      rw [List.length_replicate] at hl
      by_cases hz : gI q j = 0
      · refine ⟨x5, x6, R', ?_, by simpa using hl, fun k hk2 => ?_⟩
        · simp only [L_multiplied_4, stP, Ss.ev, S.ev, Hs.ev, E.ev, Es.ev, T.ev, Pt.put, Pts.put, Pts.len, Es.len, Oe.ev, It.ev, bind_ok, bind_err, bind_bad, th_ok, th_err, th_bad, nxth, retth, errth, badth, noerr_ok, fin_nx, fin_ret, fin_err, tidy_same, tidyX_same, List.getElem?_cons_zero, List.getElem?_cons_succ, List.set_cons_zero, List.set_cons_succ, truth_int, hz, bne_self_eq_false, Bool.false_eq_true, if_false]
        · rw [hk k hk2]
          show _ = cvF (gI q) (gI o) k j + gI q j * shf j (gI o) k
          rw [hz, Int.zero_mul, Int.add_zero]
      · obtain ⟨x5', x6', il⟩ := mul_in (fns := fns) (sub := sub) (w := w) (h := h) d q o R' (gI q j) j x5 x6 (by omega) (gI_mem (P := Bd 400) bq (bd0 _) j) bo hw ho
        refine ⟨x5', x6', stepL R' o (-gI q j) R'.length j o.length, ?_, by rw [stepL_len]; simpa using hl, fun k hk2 => step_cv q o [] R' j _ (by simpa using hl) hk k hk2⟩
        have hz2 : (gI q j != 0) = true := bne_iff_ne.mpr hz
        unfold L_multiplied_4
        rw [ss_cons]
        have : S.ev (run fns sub w d) sub w (.ifs (.tr (.var 4)) (.cons (.for_ P_multiplied_2 (.enum (.var 1)) L_multiplied_3) .nil) .nil) none (stP q o h.length (some (.int (j : Int))) (some (.int (gI q j))) x5 x6) (hpM h R') = .nx (stP q o h.length (some (.int (j : Int))) (some (.int (gI q j))) x5' x6') (hpM h (stepL R' o (-gI q j) R'.length j o.length)) := by
          rw [S.ev, T.ev, show E.ev (run fns sub w d) sub w none (.var 4) (stP q o h.length (some (.int (j : Int))) (some (.int (gI q j))) x5 x6) (hpM h R') = .ok (.int (gI q j)) (hpM h R') from rfl, bind_ok, truth_int, th_ok, hz2, if_pos rfl, ss_cons, S.ev]
          rw [show It.ev (run fns sub w d) sub w none (.enum (.var 1)) (stP q o h.length (some (.int (j : Int))) (some (.int (gI q j))) x5 x6) (hpM h R') = .ok (.ent (iZ o)) (hpM h R') from rfl, th_ok, il, nxth, ss_nil]
        rw [this, nxth, ss_nil]) none none none none (gI_zeros _) hw hq
    rw [List.length_replicate] at a2 a3
    refine ⟨R1, ?_, fun k => ?_, by rw [if_neg z, a2]⟩
    · simp only [F_multiplied, List.map_cons, List.map_nil, List.replicate, List.cons_append, List.nil_append, Nat.reduceSub, ss_cons, ss_nil]
      have qe : q.isEmpty = false := by cases q with | nil => exact absurd rfl hq0 | cons _ _ => rfl
      have oe : o.isEmpty = false := by cases o with | nil => exact absurd rfl ho0 | cons _ _ => rfl
      have s0 : S.ev (run fns sub w d) sub w (.ifs (.or (.not (.tr (.var 0))) (.not (.tr (.var 1)))) (.cons (.ret (.tup .nil)) .nil) .nil) none [some (tZ q), some (tZ o), none, none, none, none, none] h = .nx [some (tZ q), some (tZ o), none, none, none, none, none] h := by
        simp only [Ss.ev, S.ev, Hs.ev, E.ev, Es.ev, T.ev, Pt.put, Pts.put, Pts.len, Es.len, Oe.ev, It.ev, bind_ok, bind_err, bind_bad, th_ok, th_err, th_bad, nxth, retth, errth, badth, noerr_ok, fin_nx, fin_ret, fin_err, tidy_same, tidyX_same, List.getElem?_cons_zero, List.getElem?_cons_succ, List.set_cons_zero, List.set_cons_succ, tq, qe, oe, Bool.not_false, Bool.not_true, Bool.false_eq_true, if_false]
      have en : (q.length : Int) + (o.length : Int) - 1 = ((q.length + o.length - 1 : Nat) : Int) := by omega
      have s1 : S.ev (run fns sub w d) sub w (.asg (.v 2) (.bin .mul (.lst (.cons (.con (.int 0)) .nil)) (.bin .sub (.bin .add (.bi .len (.cons (.var 0) .nil)) (.bi .len (.cons (.var 1) .nil))) (.con (.int 1))))) none [some (tZ q), some (tZ o), none, none, none, none, none] h = .nx (stP q o h.length none none none none) (hpM h (List.replicate (q.length + o.length - 1) 0)) := by
        have ll : ([C.int 0] : List C).length ≤ lineN := by show 1 ≤ lineN; decide
        simp only [Ss.ev, S.ev, Hs.ev, E.ev, Es.ev, T.ev, Pt.put, Pts.put, Pts.len, Es.len, Oe.ev, It.ev, bind_ok, bind_err, bind_bad, th_ok, th_err, th_bad, nxth, retth, errth, badth, noerr_ok, fin_nx, fin_ret, fin_err, tidy_same, tidyX_same, List.getElem?_cons_zero, List.getElem?_cons_succ, List.set_cons_zero, List.set_cons_succ, if_pos ll, len_tZ, add_int, sub_int, bin_mul', en]
        rw [show (h ++ [[C.int 0]]) = h ++ [iZ [0]] from rfl, mul0 _ (by omega)]
        rfl
      have s2 : S.ev (run fns sub w d) sub w (.for_ P_multiplied_1 (.enum (.var 0)) L_multiplied_4) none (stP q o h.length none none none none) (hpM h (List.replicate (q.length + o.length - 1) 0)) = .nx (stP q o h.length x3 x4 x5 x6) (hpM h R1) := by
        rw [S.ev]; exact a1
      rw [s0, nxth, s1, nxth, s2, nxth]
      simp only [stP, Ss.ev, S.ev, Hs.ev, E.ev, Es.ev, T.ev, Pt.put, Pts.put, Pts.len, Es.len, Oe.ev, It.ev, bind_ok, bind_err, bind_bad, th_ok, th_err, th_bad, nxth, retth, errth, badth, noerr_ok, fin_nx, fin_ret, fin_err, tidy_same, tidyX_same, List.getElem?_cons_zero, List.getElem?_cons_succ, List.set_cons_zero, List.set_cons_succ, tuple_ref (hpM1 R1)]
      have := tidy_cl cl (tZ R1) ([iZ [0]] ++ [iZ R1]) (iZ_unders _ _)
      rw [← List.append_assoc] at this
      exact this
    · by_cases hk : k < q.length + o.length - 1
      · exact a3 k hk
      · rw [getD_big (show R1.length ≤ k by omega), cv_high q (gI o) (o.length - 1) k (fun i hi => getD_big (by omega)) (by omega)]
theorem product_run {i j : Nat} (e : fns i = some (F_law_product j)) (e1 : fns j = some F_law_cut) (hw : 1000 < w) (d : Nat) (cl : ClH h) (q o : List Int) (bq : ∀ y ∈ q, Bd 400 y) (bo : ∀ y ∈ o, Bd 400 y) (hq : q.length ≤ 100) (ho : o.length ≤ 100) :
    ∃ M, run fns sub w (d + 2) i [tZ q, tZ o] h = .ok (tZ (trimZ M)) h ∧ ∀ k, gI M k = cv q (gI o) k := by
  obtain ⟨x3, x4, x5, x6, R1, a1, a2, a3⟩ := mul_out (fns := fns) (sub := sub) (w := w) (h := h) (d + 1) L_law_product_4 q o (List.replicate (q.length + o.length) 0) (fun R' j x5 x6 hj hl hk => by
    rw [List.length_replicate] at hl
    obtain ⟨x5', x6', il⟩ := mul_in (fns := fns) (sub := sub) (w := w) (h := h) (d + 1) q o R' (gI q j) j x5 x6 (by omega) (gI_mem (P := Bd 400) bq (bd0 _) j) bo hw ho
    refine ⟨x5', x6', stepL R' o (-gI q j) R'.length j o.length, ?_, by rw [stepL_len]; simpa using hl, fun k hk2 => step_cv q o [] R' j _ (by simpa using hl) hk k hk2⟩
    unfold L_law_product_4
    rw [ss_cons, S.ev, show It.ev (run fns sub w (d + 1)) sub w none (.enum (.var 1)) (stP q o h.length (some (.int (j : Int))) (some (.int (gI q j))) x5 x6) (hpM h R') = .ok (.ent (iZ o)) (hpM h R') from rfl, th_ok]
    rw [show forF (.ent (iZ o)) (Pt.put (run fns sub w (d + 1)) sub w none P_law_product_2) (Ss.ev (run fns sub w (d + 1)) sub w L_law_product_3 none) w 0 (stP q o h.length (some (.int (j : Int))) (some (.int (gI q j))) x5 x6) (hpM h R') = _ from il, nxth, ss_nil]) none none none none (gI_zeros _) hw hq
  rw [List.length_replicate] at a2 a3
  have cl2 : ClH (hpM h R1) := cl_push (cl_push cl (iZ_unders _ _)) (iZ_unders _ _)
  have ct := cut_run (sub := sub) (w := w) e1 hw d (hpM h R1) cl2 (.ref (h.length + 1)) R1 (seq_ref (hpM1 R1)) (.inr ⟨_, rfl⟩) (by omega)
  refine ⟨R1, ?_, fun k => ?_⟩
  · rw [un e _ _ _ rfl (of_decide_eq_true rfl)]
    simp only [F_law_product, List.map_cons, List.map_nil, List.replicate, List.cons_append, List.nil_append, Nat.reduceSub, ss_cons, ss_nil]
    have en : (q.length : Int) + (o.length : Int) = ((q.length + o.length : Nat) : Int) := by omega
    have s1 : S.ev (run fns sub w (d + 1)) sub w (.asg (.v 2) (.bin .mul (.lst (.cons (.con (.int 0)) .nil)) (.bin .add (.bi .len (.cons (.var 0) .nil)) (.bi .len (.cons (.var 1) .nil))))) none [some (tZ q), some (tZ o), none, none, none, none, none] h = .nx (stP q o h.length none none none none) (hpM h (List.replicate (q.length + o.length) 0)) := by
      have ll : ([C.int 0] : List C).length ≤ lineN := by show 1 ≤ lineN; decide
      simp only [Ss.ev, S.ev, Hs.ev, E.ev, Es.ev, T.ev, Pt.put, Pts.put, Pts.len, Es.len, Oe.ev, It.ev, bind_ok, bind_err, bind_bad, th_ok, th_err, th_bad, nxth, retth, errth, badth, noerr_ok, fin_nx, fin_ret, fin_err, tidy_same, tidyX_same, List.getElem?_cons_zero, List.getElem?_cons_succ, List.set_cons_zero, List.set_cons_succ, if_pos ll, len_tZ, add_int, bin_mul', en]
      rw [show (h ++ [[C.int 0]]) = h ++ [iZ [0]] from rfl, mul0 _ (by omega)]
      rfl
    have s2 : S.ev (run fns sub w (d + 1)) sub w (.for_ P_law_product_1 (.enum (.var 0)) L_law_product_4) none (stP q o h.length none none none none) (hpM h (List.replicate (q.length + o.length) 0)) = .nx (stP q o h.length x3 x4 x5 x6) (hpM h R1) := by
      rw [S.ev]; exact a1
    rw [s1, nxth, s2, nxth]
    simp only [stP, Ss.ev, S.ev, Hs.ev, E.ev, Es.ev, T.ev, Pt.put, Pts.put, Pts.len, Es.len, Oe.ev, It.ev, bind_ok, bind_err, bind_bad, th_ok, th_err, th_bad, nxth, retth, errth, badth, noerr_ok, fin_nx, fin_ret, fin_err, tidy_same, tidyX_same, List.getElem?_cons_zero, List.getElem?_cons_succ, List.set_cons_zero, List.set_cons_succ, ct]
    have := tidy_cl cl (tZ (trimZ R1)) ([iZ [0]] ++ [iZ R1]) (iZ_unders _ _)
    rw [← List.append_assoc] at this
    exact this
  · by_cases hk : k < q.length + o.length
    · exact a3 k hk
    · rw [getD_big (show R1.length ≤ k by omega), cv_high q (gI o) o.length k (fun i hi => getD_big (by omega)) (by omega)]
/-! ### slopes -/
def slopeZ (xs : List Int) : List Int := (List.range (xs.length - 1)).map fun k => ((k + 1 : Nat) : Int) * gI xs (k + 1)
theorem gI_slope (xs : List Int) (k : Nat) : gI (slopeZ xs) k = ((k + 1 : Nat) : Int) * gI xs (k + 1) := by
  unfold slopeZ
  rw [gI_range]
  split
  · rfl
  · rw [getD_big (show xs.length ≤ k + 1 by omega), Int.mul_zero]
theorem slope_trim {xs : List Int} (t : Trim xs) : Trim (slopeZ xs) := by
  have l : (slopeZ xs).length = xs.length - 1 := by simp [slopeZ]
  by_cases h : xs.length ≤ 1
  · exact .inl (List.eq_nil_of_length_eq_zero (by omega))
  · right
    rw [l, gI_slope, show xs.length - 1 - 1 + 1 = xs.length - 1 by omega]
    rcases t with rfl | t
    · simp at h
    · exact Int.mul_ne_zero (by omega) t
theorem slope_run {i : Nat} (e : fns i = some F_slope) (hw : 1000 < w) (d : Nat) (cl : ClH h) (xs : List Int) (hx : xs.length ≤ 100) (bx : ∀ x ∈ xs, Bd 400 x) : run fns sub w (d + 1) i [tZ xs] h = .ok (tZ (slopeZ xs)) h := by
  obtain ⟨acc, h', c1, rfl, c2⟩ := compF_gen (it := .ent (iZ xs)) (n := xs.length) (el := fun i => .tup [.int (i : Int), .int (gI xs i)]) (g := Pt.put (run fns sub w d) sub w none P_slope_2) (t := T.ev (run fns sub w d) sub w none T_slope_3) (e := E.ev (run fns sub w d) sub w none C_slope_1) (sl := [some (tZ xs), none, none])
    (fun i acc h' => h' = h ∧ acc = iZ ((List.range (i - 1)).map fun k => ((k + 1 : Nat) : Int) * gI xs (k + 1))) (fun i _ h' _ _ => at_entI xs i h') (fun i acc h' ⟨a1, a2⟩ hi => by
      subst a1
      have m1 := mul_of (i := (i : Int)) (j := gI xs i) (bd_small (by omega) (by omega)) (gI_mem (P := Bd 400) bx (bd0 _) i) (by decide) (by decide)
      refine ⟨[some (tZ xs), some (.int (i : Int)), some (.int (gI xs i))], h', ((i : Int) != 0), h', rfl, rfl, fun z => ⟨rfl, ?_⟩, fun z => ⟨?_, .int ((i : Int) * gI xs i), h', ?_, rfl, ?_⟩⟩
      · have : (i : Int) = 0 := by simpa using z
        have : i = 0 := by omega
        rw [a2, this]
      · rw [a2, iZ_len]; simp; exact Nat.lt_of_le_of_lt (show _ ≤ 100 by omega) (by decide)
      · simp only [C_slope_1, Ss.ev, S.ev, Hs.ev, E.ev, Es.ev, T.ev, Pt.put, Pts.put, Pts.len, Es.len, Oe.ev, It.ev, bind_ok, bind_err, bind_bad, th_ok, th_err, th_bad, nxth, retth, errth, badth, noerr_ok, fin_nx, fin_ret, fin_err, tidy_same, tidyX_same, List.getElem?_cons_zero, List.getElem?_cons_succ, List.set_cons_zero, List.set_cons_succ, bin_mul', m1]
      · have hz : (i : Int) ≠ 0 := bne_iff_ne.mp z
        obtain ⟨j, rfl⟩ : ∃ j, i = j + 1 := ⟨i - 1, by omega⟩
        rw [a2, show j + 1 + 1 - 1 = j + 1 by omega, show j + 1 - 1 = j by omega, List.range_succ, List.map_append, iZ_app]
        rfl) w 0 [] h ⟨rfl, rfl⟩ (Nat.zero_le _) (by omega)
  rw [un e _ _ _ rfl (of_decide_eq_true rfl)]
  simp only [F_slope, List.map_cons, List.map_nil, List.replicate, List.cons_append, List.nil_append, Nat.reduceSub, ss_cons, ss_nil]
  rw [S.ev, E.ev, Es.ev, E.ev, show It.ev (run fns sub w d) sub w none (.enum (.var 0)) [some (tZ xs), none, none] h' = .ok (.ent (iZ xs)) h' from rfl, bind_ok]
  rw [show Pt.wipe P_slope_2 [some (tZ xs), none, none] = [some (tZ xs), none, none] from rfl]
  rw [show compF (ItV.ent (iZ xs)) (fun c sl h => Pt.put (run fns sub w d) sub w none P_slope_2 c sl h) (fun sl h => T.ev (run fns sub w d) sub w none T_slope_3 sl h) (fun sl h => E.ev (run fns sub w d) sub w none C_slope_1 sl h) w 0 [some (tZ xs), none, none] [] h' = _ from c1, noerr_ok, bind_ok, bind_ok]
  simp only [Ss.ev, S.ev, Hs.ev, E.ev, Es.ev, T.ev, Pt.put, Pts.put, Pts.len, Es.len, Oe.ev, It.ev, bind_ok, bind_err, bind_bad, th_ok, th_err, th_bad, nxth, retth, errth, badth, noerr_ok, fin_nx, fin_ret, fin_err, tidy_same, tidyX_same, List.getElem?_cons_zero, List.getElem?_cons_succ, List.set_cons_zero, List.set_cons_succ, c2, tuple_ref (last_get h' _)]
  exact tidy_cl cl _ _ (iZ_unders _ _)
/-! ### worths -/
theorem aug_mul_of {a b : Nat} {i j : Int} (h1 : Bd a i) (k : Bd b j) (l : a ≤ 60000) (l2 : b ≤ 60000) (hc : Hc) : augC .mul i j hc = .ok (.int (i * j)) hc := by
  show (if tooBig i || tooBig j then R.bad else R.ok (C.int (i * j)) hc) = _
  rw [tb_of h1 l, tb_of k l2]
  rfl
theorem at_revtI (xs : List Int) (i : Nat) (h : Hc) : (ItV.revt (iZ xs)).at_ i h = if i < xs.length then some (some (.int (gI xs (xs.length - 1 - i)))) else some none := by
  show (if i < (iZ xs).length then (match (iZ xs)[(iZ xs).length - 1 - i]? with
      | some c => some (some c)
      | none => none) else some none) = _
  rw [iZ_len, iZ_get]
  by_cases z : i < xs.length
  · rw [if_pos z, if_pos z, gI_of (by omega)]; rfl
  · rw [if_neg z, if_neg z]
theorem worth_times_run {i : Nat} (e : fns i = some F_worth_times) (hw : 1000 < w) (d : Nat) (xs : List Int) (p u : Int) (hx : xs.length ≤ 100) (bx : ∀ x ∈ xs, Bd 20 x) (hp : Bd 8 p) (hu : Bd 8 u) : run fns sub w (d + 1) i [tZ xs, .int p, .int u] h = .ok (.int (wt p u xs).1) h := by
  obtain ⟨sl', h', l1, ⟨x5, l2⟩, l3⟩ := forF_gen (it := .revt (iZ xs)) (n := xs.length) (el := fun i => .int (gI xs (xs.length - 1 - i))) (g := Pt.put (run fns sub w d) sub w none P_worth_times_1) (b := Ss.ev (run fns sub w d) sub w L_worth_times_2 none)
    (fun i sl h' => (∃ x5, sl = [some (tZ xs), some (.int p), some (.int u), some (.int (wt p u (xs.drop (xs.length - i))).1), some (.int (wt p u (xs.drop (xs.length - i))).2), x5]) ∧ h' = h) (fun i _ h' _ _ => at_revtI xs i h') (fun i sl h' ⟨⟨x5, a1⟩, a2⟩ hi => by
      subst a1 a2
      have dr : xs.drop (xs.length - (i + 1)) = gI xs (xs.length - 1 - i) :: xs.drop (xs.length - i) := by
        rw [List.drop_eq_getElem_cons (show xs.length - (i + 1) < xs.length by omega)]
        congr 1
        · have := gI_of (show xs.length - 1 - i < xs.length by omega)
          rw [List.getElem?_eq_getElem (by omega)] at this
          rw [← Option.some.inj this]
          congr 1
          omega
        · congr 1
          omega
      have dl : (xs.drop (xs.length - i)).length = i := by simp; omega
      have b1 := wt_bd hp hu 20 (xs.drop (xs.length - i)) fun y hy => bx y (List.mem_of_mem_drop hy)
      have b2 : Bd (8 * i + 1) (wt p u (xs.drop (xs.length - i))).2 := by rw [wt_scale, dl]; exact bd_pow hu (by decide) _
      rw [dl] at b1
      have m1 := mul_of (i := (wt p u (xs.drop (xs.length - i))).1) (j := p) b1 hp (by omega) (by decide)
      have m2 := mul_of (i := gI xs (xs.length - 1 - i)) (j := (wt p u (xs.drop (xs.length - i))).2) (gI_mem (P := Bd 20) bx (bd0 _) _) b2 (by decide) (by omega)
      have m3 := aug_mul_of (i := (wt p u (xs.drop (xs.length - i))).2) (j := u) b2 hu (by omega) (by decide)
      refine ⟨[some (tZ xs), some (.int p), some (.int u), some (.int (wt p u (xs.drop (xs.length - i))).1), some (.int (wt p u (xs.drop (xs.length - i))).2), some (.int (gI xs (xs.length - 1 - i)))], h', [some (tZ xs), some (.int p), some (.int u), some (.int (wt p u (xs.drop (xs.length - (i + 1)))).1), some (.int (wt p u (xs.drop (xs.length - (i + 1)))).2), some (.int (gI xs (xs.length - 1 - i)))], h', rfl, .inl ?_, ⟨⟨_, rfl⟩, rfl⟩⟩
      rw [dr]
      simp only [L_worth_times_2, Ss.ev, S.ev, Hs.ev, E.ev, Es.ev, T.ev, Pt.put, Pts.put, Pts.len, Es.len, Oe.ev, It.ev, bind_ok, bind_err, bind_bad, th_ok, th_err, th_bad, nxth, retth, errth, badth, noerr_ok, fin_nx, fin_ret, fin_err, tidy_same, tidyX_same, List.getElem?_cons_zero, List.getElem?_cons_succ, List.set_cons_zero, List.set_cons_succ, bin_mul', m1, m2, m3, add_int]
      rfl) w 0 [some (tZ xs), some (.int p), some (.int u), some (.int 0), some (.int 1), none] h ⟨⟨none, by simp [wt]⟩, rfl⟩ (Nat.zero_le _) (by omega)
  rw [un e _ _ _ rfl (of_decide_eq_true rfl)]
  simp only [F_worth_times, List.map_cons, List.map_nil, List.replicate, List.cons_append, List.nil_append, Nat.reduceSub, ss_cons, ss_nil]
  have s1 : ∀ a b : Option C, S.ev (run fns sub w d) sub w (.asg (.v 3) (.con (.int 0))) none [some (tZ xs), some (.int p), some (.int u), none, none, none] h = .nx [some (tZ xs), some (.int p), some (.int u), some (.int 0), none, none] h := fun _ _ => rfl
  rw [s1 none none, nxth]
  rw [show S.ev (run fns sub w d) sub w (.asg (.v 4) (.con (.int 1))) none [some (tZ xs), some (.int p), some (.int u), some (.int 0), none, none] h = .nx [some (tZ xs), some (.int p), some (.int u), some (.int 0), some (.int 1), none] h from rfl, nxth]
  rw [show S.ev (run fns sub w d) sub w (.for_ P_worth_times_1 (.rev (.var 0)) L_worth_times_2) none [some (tZ xs), some (.int p), some (.int u), some (.int 0), some (.int 1), none] h = .nx sl' h' from l1, nxth, l2, l3]
  simp [Ss.ev, S.ev, Hs.ev, E.ev, Es.ev, T.ev, Pt.put, Pts.put, Pts.len, Es.len, Oe.ev, It.ev, bind_ok, bind_err, bind_bad, th_ok, th_err, th_bad, nxth, retth, errth, badth, noerr_ok, fin_nx, fin_ret, fin_err, tidy_same, tidyX_same, List.getElem?_cons_zero, List.getElem?_cons_succ, List.set_cons_zero, List.set_cons_succ]
/-- in lowest terms, the under above nought -/
def lowP (n u : Int) : C := .tup [.int (n.fdiv (Nat.gcd n.natAbs u.natAbs : Nat)), .int (u.fdiv (Nat.gcd n.natAbs u.natAbs : Nat))]
theorem gcd_i (h : Hc) (i j : Int) : bi .gcd [.int i, .int j] h = .ok (.int (Nat.gcd i.natAbs j.natAbs : Nat)) h := rfl
theorem gcd_ne {n u : Int} (hu : 0 < u) : (Nat.gcd n.natAbs u.natAbs : Int) ≠ 0 := by
  have := Nat.gcd_pos_of_pos_right n.natAbs (Int.natAbs_pos.mpr (show u ≠ 0 by omega))
  omega
theorem gcd_bd {n u : Int} {b : Nat} (hu : 0 < u) (hb : Bd b u) : Bd b (Nat.gcd n.natAbs u.natAbs : Int) := hb.le (Nat.le_of_dvd (Int.natAbs_pos.mpr (show u ≠ 0 by omega)) (Nat.gcd_dvd_right _ _))
theorem lowest_run {i : Nat} (e : fns i = some F_lowest) (d : Nat) (n u : Int) (hu : 0 < u) (hb : Bd 2000 u) : run fns sub w (d + 1) i [.int n, .int u] h = .ok (lowP n u) h := by
  rw [un e _ _ _ rfl (of_decide_eq_true rfl)]
  have hn : ¬ u < 0 := by omega
  have d1 := fun x => div_of (i := x) (gcd_ne (n := n) hu) (gcd_bd hu hb) (by decide) h
  have l2 : (2 : Nat) ≤ lineN := by decide
  simp [F_lowest, Ss.ev, S.ev, Hs.ev, E.ev, Es.ev, T.ev, Pt.put, Pts.put, Pts.len, Es.len, Oe.ev, It.ev, bind_ok, bind_err, bind_bad, th_ok, th_err, th_bad, nxth, retth, errth, badth, noerr_ok, fin_nx, fin_ret, fin_err, tidy_same, tidyX_same, List.getElem?_cons_zero, List.getElem?_cons_succ, List.set_cons_zero, List.set_cons_succ, gcd_i, lt_i, hn, bin_div', d1, l2, lowP]
/-! ### ratios -/
theorem ratio_ok {i j : Nat} (e : fns i = some (F_is_ratio j)) (e1 : fns j = some F_is_integer) (d : Nat) (a b : Int) : run fns sub w (d + 2) i [.tup [.int a, .int b]] h = .ok (.bl (decide (1 ≤ b) && (((Nat.gcd a.natAbs b.natAbs : Nat) : Int) == 1))) h := by
  have ri := fun y => is_integer_run (sub := sub) (w := w) e1 d h y
  rw [un e _ _ _ rfl (of_decide_eq_true rfl)]
  by_cases h1 : 1 ≤ b <;> simp [F_is_ratio, Ss.ev, S.ev, Hs.ev, E.ev, Es.ev, T.ev, Pt.put, Pts.put, Pts.len, Es.len, Oe.ev, It.ev, bind_ok, bind_err, bind_bad, th_ok, th_err, th_bad, nxth, retth, errth, badth, noerr_ok, fin_nx, fin_ret, fin_err, tidy_same, tidyX_same, List.getElem?_cons_zero, List.getElem?_cons_succ, List.set_cons_zero, List.set_cons_succ, ri, isI, isiC, isiT, tyC, truth_b, len_tup', ne_int, gcd_i, ge_i, eq_int, h1, Pts.put, Pts.len]
theorem ratio_nt {i j : Nat} (e : fns i = some (F_is_ratio j)) (d : Nat) (x : C) (hx : isiC x .tuple = false) : run fns sub w (d + 2) i [x] h = .ok (.bl false) h := by
  rw [un e _ _ _ rfl (of_decide_eq_true rfl)]
  simp [F_is_ratio, Ss.ev, S.ev, Hs.ev, E.ev, Es.ev, T.ev, Pt.put, Pts.put, Pts.len, Es.len, Oe.ev, It.ev, bind_ok, bind_err, bind_bad, th_ok, th_err, th_bad, nxth, retth, errth, badth, noerr_ok, fin_nx, fin_ret, fin_err, tidy_same, tidyX_same, List.getElem?_cons_zero, List.getElem?_cons_succ, List.set_cons_zero, List.set_cons_succ, truth_b, hx]
theorem ratio_ni {i j : Nat} (e : fns i = some (F_is_ratio j)) (e1 : fns j = some F_is_integer) (d : Nat) (x y : C) (hx : isI x = false) : run fns sub w (d + 2) i [.tup [x, y]] h = .ok (.bl false) h := by
  have ri := fun y => is_integer_run (sub := sub) (w := w) e1 d h y
  rw [un e _ _ _ rfl (of_decide_eq_true rfl)]
  simp [F_is_ratio, Ss.ev, S.ev, Hs.ev, E.ev, Es.ev, T.ev, Pt.put, Pts.put, Pts.len, Es.len, Oe.ev, It.ev, bind_ok, bind_err, bind_bad, th_ok, th_err, th_bad, nxth, retth, errth, badth, noerr_ok, fin_nx, fin_ret, fin_err, tidy_same, tidyX_same, List.getElem?_cons_zero, List.getElem?_cons_succ, List.set_cons_zero, List.set_cons_succ, ri, hx, isiC, isiT, tyC, truth_b, len_tup', ne_int, Pts.put, Pts.len]
theorem check_ratio_run {i j x0 : Nat} (e : fns i = some (F_check_ratio j x0)) (d : Nat) (x : C) (b : Bool) (hr : run fns sub w d j [x] h = .ok (.bl b) h) : run fns sub w (d + 1) i [x] h = if b then .ok .non h else .err x0 [x] h := by
  rw [un e _ _ _ rfl (of_decide_eq_true rfl)]
  cases b <;> simp [F_check_ratio, Ss.ev, S.ev, Hs.ev, E.ev, Es.ev, T.ev, Pt.put, Pts.put, Pts.len, Es.len, Oe.ev, It.ev, bind_ok, bind_err, bind_bad, th_ok, th_err, th_bad, nxth, retth, errth, badth, noerr_ok, fin_nx, fin_ret, fin_err, tidy_same, tidyX_same, List.getElem?_cons_zero, List.getElem?_cons_succ, List.set_cons_zero, List.set_cons_succ, hr, truth_b]
end
end Sh
set_option Elab.async false
set_option linter.all false
set_option autoImplicit false
set_option maxRecDepth 100000
set_option maxHeartbeats 8000000

namespace K16
open PySem PySem.Spec PyProof.Rows L2 Sh
def top (i : Nat) : Stmt := PySem.Challenge.pw_whichpaces_k16_counts_and_floors_refused.main.body.getD i (.Pass ⟨0, 0, 0, 0⟩)
def clsBody : Stmt → List Stmt
  | .ClassDef _ _ _ b _ _ _ _ _ _ _ => b
  | _ => []
def meth (i j : Nat) : Stmt := (clsBody (top i)).getD j (.Pass ⟨0, 0, 0, 0⟩)
abbrev st0 : Stmt := top 2
def N0 : List Str := ["value"]
def P0 : List Str := ["value"]
def b0 : Ss := (.cons (.ret (.andv (.isi (.var 0) .int) (.notv (.isi (.var 0) .bool)))) .nil)
abbrev st1 : Stmt := top 3
def N1 : List Str := ["value"]
def P1 : List Str := ["value"]
def b1 : Ss := (.cons (.ret (.andv (.call 0 (.cons (.var 0) .nil)) (.cmp .ge (.var 0) (.con (.int 0))))) .nil)
abbrev st2 : Stmt := top 13
def N2 : List Str := ["many", "least", "most"]
def P2 : List Str := ["many", "least", "most"]
def b2 : Ss := (.cons (.ifs (.or (.not (.tr (.call 0 (.cons (.var 0) .nil)))) (.not (.chn .le .le (.var 1) (.var 0) (.var 2)))) (.cons (.raise 2 (.cons (.var 0) .nil)) .nil) .nil) .nil)
abbrev st3 : Stmt := top 15
def N3 : List Str := ["number"]
def P3 : List Str := ["number"]
def b3 : Ss := (.cons (.ret (.bin .sub (.cmp .gt (.var 0) (.con (.int 0))) (.cmp .lt (.var 0) (.con (.int 0))))) .nil)
abbrev st4 : Stmt := top 16
def N4 : List Str := ["row", "length"]
def P4 : List Str := ["row"]
def b4 : Ss := (.cons (.asg (.v 1) (.bi .len (.cons (.var 0) .nil))) (.cons (.whl (.and (.tr (.var 1)) (.cmp .eq (.idx (.var 0) (.bin .sub (.var 1) (.con (.int 1)))) (.con (.int 0)))) (.cons (.aug 1 .sub (.con (.int 1))) .nil)) (.cons (.ret (.bi .tuple (.cons (.slc (.var 0) .none (.some (.var 1))) .nil))) .nil)))
abbrev st5 : Stmt := top 17
def N5 : List Str := ["row", "number"]
def P5 : List Str := ["row"]
def b5 : Ss := (.cons (.ret (.bi .tuple (.cons (.comp (.neg (.var 1)) (.v 1) (.seq (.var 0)) .yes) .nil))) .nil)
abbrev st6 : Stmt := top 18
def N6 : List Str := ["row", "power", "number"]
def P6 : List Str := ["row"]
def b6 : Ss := (.cons (.ret (.bi .tuple (.cons (.comp (.bin .mul (.var 1) (.var 2)) (.tup (.cons (.v 1) (.cons (.v 2) .nil))) (.enum (.var 0)) (.tr (.var 1))) .nil))) .nil)
abbrev st7 : Stmt := top 19
def N7 : List Str := ["row", "number", "under", "worth", "scale", "factor"]
def P7 : List Str := ["row", "number", "under"]
def b7 : Ss := (.cons (.asg (.v 3) (.con (.int 0))) (.cons (.asg (.v 4) (.con (.int 1))) (.cons (.for_ (.v 5) (.rev (.var 0)) (.cons (.asg (.v 3) (.bin .add (.bin .mul (.var 3) (.var 1)) (.bin .mul (.var 5) (.var 4)))) (.cons (.aug 4 .mul (.var 2)) .nil))) (.cons (.ret (.var 3)) .nil))))
abbrev st8 : Stmt := top 20
def N8 : List Str := ["row", "other", "rest", "quotient", "top", "start", "place"]
def P8 : List Str := ["row", "other"]
def b8 : Ss := (.cons (.asg (.v 2) (.bi .list (.cons (.var 0) .nil))) (.cons (.asg (.v 3) (.lst .nil)) (.cons (.whl (.cmp .ge (.bi .len (.cons (.var 2) .nil)) (.bi .len (.cons (.var 1) .nil))) (.cons (.asg (.v 4) (.bin .div (.pop (.var 2)) (.idx (.var 1) (.neg (.con (.int 1)))))) (.cons (.app (.var 3) (.var 4)) (.cons (.asg (.v 5) (.bin .add (.bin .sub (.bi .len (.cons (.var 2) .nil)) (.bi .len (.cons (.var 1) .nil))) (.con (.int 1)))) (.cons (.for_ (.v 6) (.rng1 (.bin .sub (.bi .len (.cons (.var 1) .nil)) (.con (.int 1)))) (.cons (.augi (.var 2) (.bin .add (.var 5) (.var 6)) .sub (.bin .mul (.var 4) (.idx (.var 1) (.var 6)))) .nil)) .nil))))) (.cons (.ret (.tup (.cons (.bi .tuple (.cons (.revs (.var 3)) .nil)) (.cons (.call 4 (.cons (.var 2) .nil)) .nil)))) .nil))))
abbrev st9 : Stmt := top 21
def N9 : List Str := ["row", "common", "number"]
def P9 : List Str := ["row"]
def b9 : Ss := (.cons (.asg (.v 1) (.con (.int 0))) (.cons (.for_ (.v 2) (.seq (.var 0)) (.cons (.asg (.v 1) (.bi .gcd (.cons (.var 1) (.cons (.var 2) .nil)))) .nil)) (.cons (.ret (.var 1)) .nil)))
abbrev st10 : Stmt := top 22
def N10 : List Str := ["row", "common", "number"]
def P10 : List Str := ["row"]
def b10 : Ss := (.cons (.asg (.v 1) (.call 9 (.cons (.var 0) .nil))) (.cons (.ifs (.cmp .lt (.var 1) (.con (.int 2))) (.cons (.ret (.bi .tuple (.cons (.var 0) .nil))) .nil) .nil) (.cons (.ret (.bi .tuple (.cons (.comp (.bin .div (.var 2) (.var 1)) (.v 2) (.seq (.var 0)) .yes) .nil))) .nil)))
abbrev st11 : Stmt := top 23
def N11 : List Str := ["row"]
def P11 : List Str := ["row"]
def b11 : Ss := (.cons (.ifs (.and (.tr (.var 0)) (.cmp .lt (.idx (.var 0) (.neg (.con (.int 1)))) (.con (.int 0)))) (.cons (.ret (.call 10 (.cons (.call 5 (.cons (.var 0) .nil)) .nil))) .nil) .nil) (.cons (.ret (.call 10 (.cons (.var 0) .nil))) .nil))
abbrev st12 : Stmt := top 24
def N12 : List Str := ["row", "other", "rest", "top", "common", "factor", "taken", "number", "start", "place"]
def P12 : List Str := ["row", "other"]
def b12 : Ss := (.cons (.asg (.v 2) (.bi .list (.cons (.var 0) .nil))) (.cons (.whl (.cmp .ge (.bi .len (.cons (.var 2) .nil)) (.bi .len (.cons (.var 1) .nil))) (.cons (.asg (.v 3) (.idx (.var 2) (.neg (.con (.int 1))))) (.cons (.asg (.v 4) (.bi .gcd (.cons (.var 3) (.cons (.idx (.var 1) (.neg (.con (.int 1)))) .nil)))) (.cons (.asg (.v 5) (.bin .div (.bi .abs (.cons (.idx (.var 1) (.neg (.con (.int 1)))) .nil)) (.var 4))) (.cons (.asg (.v 6) (.bin .mul (.bin .div (.var 3) (.var 4)) (.call 3 (.cons (.idx (.var 1) (.neg (.con (.int 1)))) .nil)))) (.cons (.setc 2 (.comp (.bin .mul (.var 5) (.var 7)) (.v 7) (.seq (.var 2)) .yes)) (.cons (.asg (.v 8) (.bin .sub (.bi .len (.cons (.var 2) .nil)) (.bi .len (.cons (.var 1) .nil)))) (.cons (.for_ (.tup (.cons (.v 9) (.cons (.v 7) .nil))) (.enum (.var 1)) (.cons (.augi (.var 2) (.bin .add (.var 8) (.var 9)) .sub (.bin .mul (.var 6) (.var 7))) .nil)) (.cons (.asg (.v 2) (.bi .list (.cons (.call 4 (.cons (.var 2) .nil)) .nil))) .nil))))))))) (.cons (.ret (.call 10 (.cons (.var 2) .nil))) .nil)))
abbrev st13 : Stmt := top 25
def N13 : List Str := ["row", "other", "rows"]
def P13 : List Str := ["row", "other"]
def b13 : Ss := (.cons (.asg (.v 2) (.lst (.cons (.var 0) .nil))) (.cons (.whl (.tr (.var 1)) (.cons (.app (.var 2) (.var 1)) (.cons (.asg (.v 1) (.call 5 (.cons (.call 12 (.cons (.idx (.var 2) (.neg (.con (.int 2)))) (.cons (.var 1) .nil))) .nil))) .nil))) (.cons (.ret (.var 2)) .nil)))
abbrev st14 : Stmt := top 26
def N14 : List Str := ["row", "other"]
def P14 : List Str := ["row", "other"]
def b14 : Ss := (.cons (.whl (.tr (.var 1)) (.cons (.par 0 1 (.var 1) (.call 12 (.cons (.var 0) (.cons (.var 1) .nil)))) .nil)) (.cons (.ret (.call 11 (.cons (.var 0) .nil))) .nil))
abbrev st15 : Stmt := top 27
def N15 : List Str := ["row", "whole", "quotient", "_"]
def P15 : List Str := ["row"]
def b15 : Ss := (.cons (.ifs (.not (.tr (.var 0))) (.cons (.ret (.tup .nil)) .nil) .nil) (.cons (.asg (.v 1) (.call 11 (.cons (.var 0) .nil))) (.cons (.asg (.tup (.cons (.v 2) (.cons (.v 3) .nil))) (.call 8 (.cons (.var 1) (.cons (.call 14 (.cons (.var 1) (.cons (.call 6 (.cons (.var 1) .nil)) .nil))) .nil)))) (.cons (.ret (.var 2)) .nil))))
abbrev st16 : Stmt := top 29
def N16 : List Str := ["value", "number", "under"]
def P16 : List Str := ["value"]
def b16 : Ss := (.cons (.ifs (.or (.not (.tr (.isi (.var 0) .tuple))) (.cmp .ne (.bi .len (.cons (.var 0) .nil)) (.con (.int 2)))) (.cons (.ret (.con (.bl false))) .nil) .nil) (.cons (.asg (.tup (.cons (.v 1) (.cons (.v 2) .nil))) (.var 0)) (.cons (.ifs (.or (.not (.tr (.call 0 (.cons (.var 1) .nil)))) (.not (.tr (.call 0 (.cons (.var 2) .nil))))) (.cons (.ret (.con (.bl false))) .nil) .nil) (.cons (.ret (.andv (.cmp .ge (.var 2) (.con (.int 1))) (.cmp .eq (.bi .gcd (.cons (.var 1) (.cons (.var 2) .nil))) (.con (.int 1))))) .nil))))
abbrev st17 : Stmt := top 30
def N17 : List Str := ["value"]
def P17 : List Str := ["value"]
def b17 : Ss := (.cons (.ifs (.not (.tr (.call 16 (.cons (.var 0) .nil)))) (.cons (.raise 0 (.cons (.var 0) .nil)) .nil) .nil) .nil)
abbrev st18 : Stmt := top 31
def N18 : List Str := ["ratio", "other", "first", "second"]
def P18 : List Str := ["ratio", "other"]
def b18 : Ss := (.cons (.expr (.call 17 (.cons (.var 0) .nil))) (.cons (.expr (.call 17 (.cons (.var 1) .nil))) (.cons (.asg (.v 2) (.bin .mul (.idx (.var 0) (.con (.int 0))) (.idx (.var 1) (.con (.int 1))))) (.cons (.asg (.v 3) (.bin .mul (.idx (.var 1) (.con (.int 0))) (.idx (.var 0) (.con (.int 1))))) (.cons (.ret (.bin .sub (.cmp .gt (.var 2) (.var 3)) (.cmp .lt (.var 2) (.var 3)))) .nil)))))
abbrev st19 : Stmt := top 35
def N19 : List Str := ["value", "number"]
def P19 : List Str := ["value"]
def b19 : Ss := (.cons (.ifs (.or (.not (.tr (.isi (.var 0) .tuple))) (.cmp .gt (.bi .len (.cons (.var 0) .nil)) (.glob "MOST_NUMBERS" (.int 13)))) (.cons (.ret (.con (.bl false))) .nil) .nil) (.cons (.for_ (.v 1) (.seq (.var 0)) (.cons (.ifs (.or (.not (.tr (.call 0 (.cons (.var 1) .nil)))) (.cmp .gt (.bi .abs (.cons (.var 1) .nil)) (.glob "MOST_SIZE" (.int 1000000)))) (.cons (.ret (.con (.bl false))) .nil) .nil) .nil)) (.cons (.ret (.orv (.cmp .eq (.bi .len (.cons (.var 0) .nil)) (.con (.int 0))) (.cmp .ne (.idx (.var 0) (.neg (.con (.int 1)))) (.con (.int 0))))) .nil)))
abbrev st20 : Stmt := top 36
def N20 : List Str := ["value"]
def P20 : List Str := ["value"]
def b20 : Ss := (.cons (.ifs (.not (.tr (.call 19 (.cons (.var 0) .nil)))) (.cons (.raise 1 (.cons (.var 0) .nil)) .nil) .nil) .nil)
abbrev st21 : Stmt := top 38
def N21 : List Str := ["row", "many", "last", "number", "sign"]
def P21 : List Str := ["row"]
def b21 : Ss := (.cons (.asg (.v 1) (.con (.int 0))) (.cons (.asg (.v 2) (.con (.int 0))) (.cons (.for_ (.v 3) (.seq (.var 0)) (.cons (.asg (.v 4) (.call 3 (.cons (.var 3) .nil))) (.cons (.ifs (.and (.tr (.var 4)) (.cmp .eq (.var 4) (.neg (.var 2)))) (.cons (.aug 1 .add (.con (.int 1))) .nil) .nil) (.cons (.ifs (.tr (.var 4)) (.cons (.asg (.v 2) (.var 4)) .nil) .nil) .nil)))) (.cons (.ret (.var 1)) .nil))))
abbrev st22 : Stmt := top 39
def N22 : List Str := ["polynomial"]
def P22 : List Str := ["polynomial"]
def b22 : Ss := (.cons (.expr (.call 20 (.cons (.var 0) .nil))) (.cons (.ret (.call 21 (.cons (.var 0) .nil))) .nil))
abbrev st23 : Stmt := top 41
def N23 : List Str := ["polynomial", "first"]
def P23 : List Str := ["polynomial"]
def b23 : Ss := (.cons (.asg (.v 1) (.call 15 (.cons (.var 0) .nil))) (.cons (.ret (.call 13 (.cons (.var 1) (.cons (.call 6 (.cons (.var 1) .nil)) .nil)))) .nil))
abbrev st24 : Stmt := top 42
def N24 : List Str := ["rows", "number", "under", "row"]
def P24 : List Str := ["rows", "number", "under"]
def b24 : Ss := (.cons (.ret (.call 21 (.cons (.comp (.call 7 (.cons (.var 3) (.cons (.var 1) (.cons (.var 2) .nil)))) (.v 3) (.seq (.var 0)) .yes) .nil))) .nil)
abbrev st25 : Stmt := top 43
def N25 : List Str := ["rows", "row"]
def P25 : List Str := ["rows"]
def b25 : Ss := (.cons (.ret (.call 21 (.cons (.comp (.idx (.var 1) (.neg (.con (.int 1)))) (.v 1) (.seq (.var 0)) .yes) .nil))) .nil)
abbrev st26 : Stmt := top 44
def N26 : List Str := ["rows", "row"]
def P26 : List Str := ["rows"]
def b26 : Ss := (.cons (.ret (.call 21 (.cons (.comp (.ite (.cmp .eq (.bin .mod (.bi .len (.cons (.var 1) .nil)) (.con (.int 2))) (.con (.int 0))) (.neg (.idx (.var 1) (.neg (.con (.int 1))))) (.idx (.var 1) (.neg (.con (.int 1))))) (.v 1) (.seq (.var 0)) .yes) .nil))) .nil)
abbrev st27 : Stmt := top 45
def N27 : List Str := ["rows"]
def P27 : List Str := ["rows"]
def b27 : Ss := (.cons (.ret (.bin .sub (.call 26 (.cons (.var 0) .nil)) (.call 25 (.cons (.var 0) .nil)))) .nil)
abbrev st28 : Stmt := top 46
def N28 : List Str := ["rows", "number", "under"]
def P28 : List Str := ["rows", "number", "under"]
def b28 : Ss := (.cons (.ret (.bin .sub (.call 24 (.cons (.var 0) (.cons (.var 1) (.cons (.var 2) .nil)))) (.call 25 (.cons (.var 0) .nil)))) .nil)
abbrev st29 : Stmt := top 47
def N29 : List Str := ["rows", "number", "under"]
def P29 : List Str := ["rows", "number", "under"]
def b29 : Ss := (.cons (.ret (.cmp .eq (.call 7 (.cons (.idx (.var 0) (.con (.int 0))) (.cons (.var 1) (.cons (.var 2) .nil)))) (.con (.int 0)))) .nil)
abbrev st30 : Stmt := top 48
def N30 : List Str := ["rows", "number", "under", "many"]
def P30 : List Str := ["rows", "number", "under"]
def b30 : Ss := (.cons (.asg (.v 3) (.call 28 (.cons (.var 0) (.cons (.var 1) (.cons (.var 2) .nil))))) (.cons (.ret (.ite (.tr (.call 29 (.cons (.var 0) (.cons (.var 1) (.cons (.var 2) .nil))))) (.bin .add (.var 3) (.con (.int 1))) (.var 3))) .nil))
abbrev st31 : Stmt := top 49
def N31 : List Str := ["rows", "low", "high"]
def P31 : List Str := ["rows", "low", "high"]
def b31 : Ss := (.cons (.ret (.bin .sub (.call 28 (.cons (.var 0) (.cons (.idx (.var 1) (.con (.int 0))) (.cons (.idx (.var 1) (.con (.int 1))) .nil)))) (.call 30 (.cons (.var 0) (.cons (.idx (.var 2) (.con (.int 0))) (.cons (.idx (.var 2) (.con (.int 1))) .nil)))))) .nil)
abbrev st32 : Stmt := top 50
def N32 : List Str := ["row", "number"]
def P32 : List Str := ["row"]
def b32 : Ss := (.cons (.ret (.bin .add (.con (.int 2)) (.bin .div (.bi .maxL (.cons (.comp (.bi .abs (.cons (.var 1) .nil)) (.v 1) (.seq (.var 0)) .yes) .nil)) (.bi .abs (.cons (.idx (.var 0) (.neg (.con (.int 1)))) .nil))))) .nil)
abbrev st33 : Stmt := top 51
def N33 : List Str := ["rows", "position", "high", "low", "middle"]
def P33 : List Str := ["rows", "position"]
def b33 : Ss := (.cons (.asg (.v 2) (.call 32 (.cons (.idx (.var 0) (.con (.int 0))) .nil))) (.cons (.asg (.v 3) (.neg (.var 2))) (.cons (.whl (.cmp .gt (.bin .sub (.var 2) (.var 3)) (.con (.int 1))) (.cons (.asg (.v 4) (.bin .div (.bin .add (.var 3) (.var 2)) (.con (.int 2)))) (.cons (.ifs (.cmp .gt (.call 30 (.cons (.var 0) (.cons (.var 4) (.cons (.con (.int 1)) .nil)))) (.var 1)) (.cons (.asg (.v 3) (.var 4)) .nil) (.cons (.asg (.v 2) (.var 4)) .nil)) .nil))) (.cons (.ret (.var 3)) .nil))))
abbrev st34 : Stmt := top 52
def N34 : List Str := ["rows", "number", "under", "sign"]
def P34 : List Str := ["rows", "number", "under"]
def b34 : Ss := (.cons (.asg (.v 3) (.call 3 (.cons (.call 7 (.cons (.idx (.var 0) (.con (.int 0))) (.cons (.var 1) (.cons (.var 2) .nil)))) .nil))) (.cons (.ifs (.cmp .eq (.var 3) (.con (.int 0))) (.cons (.ret (.neg (.call 3 (.cons (.call 7 (.cons (.idx (.var 0) (.con (.int 1))) (.cons (.var 1) (.cons (.var 2) .nil)))) .nil)))) .nil) .nil) (.cons (.ret (.var 3)) .nil)))
abbrev st35 : Stmt := top 53
def N35 : List Str := ["rows", "low", "under"]
def P35 : List Str := ["rows", "low", "under"]
def b35 : Ss := (.cons (.ret (.cmp .eq (.bin .sub (.call 30 (.cons (.var 0) (.cons (.var 1) (.cons (.var 2) .nil)))) (.call 30 (.cons (.var 0) (.cons (.bin .add (.var 1) (.con (.int 1))) (.cons (.var 2) .nil))))) (.con (.int 1)))) .nil)
abbrev st36 : Stmt := top 54
def N36 : List Str := ["rows", "position", "many", "low", "under", "sign_above", "_"]
def P36 : List Str := ["rows", "position", "many"]
def b36 : Ss := (.cons (.asg (.v 3) (.call 33 (.cons (.var 0) (.cons (.var 1) .nil)))) (.cons (.asg (.v 4) (.con (.int 1))) (.cons (.asg (.v 5) (.con (.int 0))) (.cons (.for_ (.v 6) (.rng1 (.var 2)) (.cons (.ifs (.and (.cmp .eq (.var 5) (.con (.int 0))) (.tr (.call 35 (.cons (.var 0) (.cons (.var 3) (.cons (.var 4) .nil)))))) (.cons (.asg (.v 5) (.call 34 (.cons (.var 0) (.cons (.bin .add (.var 3) (.con (.int 1))) (.cons (.var 4) .nil))))) .nil) .nil) (.cons (.aug 4 .mul (.con (.int 2))) (.cons (.aug 3 .mul (.con (.int 2))) (.cons (.ifs (.tr (.var 5)) (.cons (.ifs (.cmp .ne (.call 3 (.cons (.call 7 (.cons (.idx (.var 0) (.con (.int 0))) (.cons (.bin .add (.var 3) (.con (.int 1))) (.cons (.var 4) .nil)))) .nil)) (.var 5)) (.cons (.aug 3 .add (.con (.int 1))) .nil) .nil) .nil) (.cons (.ifs (.cmp .gt (.call 30 (.cons (.var 0) (.cons (.bin .add (.var 3) (.con (.int 1))) (.cons (.var 4) .nil)))) (.var 1)) (.cons (.aug 3 .add (.con (.int 1))) .nil) .nil) .nil)) .nil))))) (.cons (.ret (.var 3)) .nil)))))
abbrev st37 : Stmt := top 57
def N37 : List Str := ["polynomial"]
def P37 : List Str := ["polynomial"]
def b37 : Ss := (.cons (.ifs (.not (.tr (.var 0))) (.cons (.raise 4 .nil) .nil) .nil) .nil)
abbrev st38 : Stmt := top 58
def N38 : List Str := ["polynomial"]
def P38 : List Str := ["polynomial"]
def b38 : Ss := (.cons (.expr (.call 20 (.cons (.var 0) .nil))) (.cons (.expr (.call 37 (.cons (.var 0) .nil))) (.cons (.ret (.call 27 (.cons (.call 23 (.cons (.var 0) .nil)) .nil))) .nil)))
abbrev st39 : Stmt := top 59
def N39 : List Str := ["polynomial", "low", "high"]
def P39 : List Str := ["polynomial", "low", "high"]
def b39 : Ss := (.cons (.expr (.call 20 (.cons (.var 0) .nil))) (.cons (.expr (.call 17 (.cons (.var 1) .nil))) (.cons (.expr (.call 17 (.cons (.var 2) .nil))) (.cons (.expr (.call 37 (.cons (.var 0) .nil))) (.cons (.ifs (.cmp .ne (.call 18 (.cons (.var 1) (.cons (.var 2) .nil))) (.neg (.con (.int 1)))) (.cons (.ret (.con (.int 0))) .nil) .nil) (.cons (.ret (.call 31 (.cons (.call 23 (.cons (.var 0) .nil)) (.cons (.var 1) (.cons (.var 2) .nil))))) .nil))))))
abbrev st40 : Stmt := top 60
def N40 : List Str := ["polynomial", "ratio"]
def P40 : List Str := ["polynomial", "ratio"]
def b40 : Ss := (.cons (.expr (.call 20 (.cons (.var 0) .nil))) (.cons (.expr (.call 17 (.cons (.var 1) .nil))) (.cons (.expr (.call 37 (.cons (.var 0) .nil))) (.cons (.ret (.call 28 (.cons (.call 23 (.cons (.var 0) .nil)) (.cons (.idx (.var 1) (.con (.int 0))) (.cons (.idx (.var 1) (.con (.int 1))) .nil))))) .nil))))
abbrev st41 : Stmt := top 61
def N41 : List Str := ["polynomial", "position", "many", "rows"]
def P41 : List Str := ["polynomial", "position", "many"]
def b41 : Ss := (.cons (.expr (.call 20 (.cons (.var 0) .nil))) (.cons (.expr (.call 37 (.cons (.var 0) .nil))) (.cons (.asg (.v 3) (.call 23 (.cons (.var 0) .nil))) (.cons (.ifs (.or (.not (.tr (.call 1 (.cons (.var 1) .nil)))) (.cmp .ge (.var 1) (.call 27 (.cons (.var 3) .nil)))) (.cons (.raise 3 (.cons (.var 1) .nil)) .nil) .nil) (.cons (.expr (.call 2 (.cons (.var 2) (.cons (.con (.int 0)) (.cons (.glob "MOST_PLACES" (.int 400)) .nil))))) (.cons (.ret (.call 36 (.cons (.var 3) (.cons (.var 1) (.cons (.var 2) .nil))))) .nil))))))
abbrev st42 : Stmt := top 63
def N42 : List Str := ["script", "k", "cell"]
def P42 : List Str := ["script", "k"]
def b42 : Ss := (.cons (.asg (.v 2) (.ite (.cmp .lt (.var 1) (.bi .len (.cons (.var 0) .nil))) (.bi .abs (.cons (.idx (.var 0) (.var 1)) .nil)) (.bin .add (.bin .mul (.con (.int 919)) (.var 1)) (.con (.int 587))))) (.cons (.ret (.lst (.cons (.bi .max2 (.cons (.con (.int 0)) (.cons (.bin .sub (.var 2) (.bin .pow (.con (.int 10)) (.con (.int 18)))) .nil))) (.cons (.bin .add (.bin .mod (.bi .int (.cons (.bin .add (.bin .add (.bin .mul (.bin .mod (.bi .int (.cons (.var 2) .nil)) (.con (.int 2147483549))) (.con (.int 41201))) (.bin .mul (.con (.int 4021)) (.var 1))) (.con (.int 661))) .nil)) (.con (.int 2147483563))) (.con (.int 1))) .nil)))) .nil))
abbrev st43 : Stmt := top 64
def N43 : List Str := ["pot", "many", "digit"]
def P43 : List Str := ["pot", "many"]
def b43 : Ss := (.cons (.ifs (.cmp .gt (.idx (.var 0) (.con (.int 0))) (.con (.int 0))) (.cons (.asg (.tup (.cons (.sub (.var 0) (.con (.int 0))) (.cons (.v 2) .nil))) (.bi .divmod (.cons (.idx (.var 0) (.con (.int 0))) (.cons (.var 1) .nil)))) (.cons (.ret (.var 2)) .nil)) .nil) (.cons (.asg (.sub (.var 0) (.con (.int 1))) (.bin .mod (.bi .int (.cons (.bin .add (.bin .mul (.idx (.var 0) (.con (.int 1))) (.con (.int 40014))) (.con (.int 1109))) .nil)) (.con (.int 2147483563)))) (.cons (.ret (.bin .mod (.bi .int (.cons (.bin .div (.bin .mod (.bi .int (.cons (.bin .mul (.idx (.var 0) (.con (.int 1))) (.idx (.var 0) (.con (.int 1)))) .nil)) (.con (.int 2147483587))) (.con (.int 21))) .nil)) (.var 1))) .nil)))
abbrev st44 : Stmt := top 65
def N44 : List Str := ["pot", "some"]
def P44 : List Str := ["pot", "some"]
def b44 : Ss := (.cons (.ret (.idx (.var 1) (.call 43 (.cons (.var 0) (.cons (.bi .len (.cons (.var 1) .nil)) .nil))))) .nil)
abbrev st45 : Stmt := top 66
def N45 : List Str := ["word", "values"]
def P45 : List Str := ["word", "values"]
def b45 : Ss := (.cons (.ifs (.cmp .eq (.var 0) (.con (.str "signs"))) (.cons (.ret (.call 22 (.cons (.idx (.var 1) (.con (.int 0))) .nil))) .nil) .nil) (.cons (.ifs (.cmp .eq (.var 0) (.con (.str "real"))) (.cons (.ret (.call 38 (.cons (.idx (.var 1) (.con (.int 0))) .nil))) .nil) .nil) (.cons (.ifs (.cmp .eq (.var 0) (.con (.str "between"))) (.cons (.ret (.call 39 (.cons (.idx (.var 1) (.con (.int 0))) (.cons (.idx (.var 1) (.con (.int 1))) (.cons (.idx (.var 1) (.con (.int 2))) .nil))))) .nil) .nil) (.cons (.ifs (.cmp .eq (.var 0) (.con (.str "above"))) (.cons (.ret (.call 40 (.cons (.idx (.var 1) (.con (.int 0))) (.cons (.idx (.var 1) (.con (.int 1))) .nil)))) .nil) .nil) (.cons (.ret (.call 41 (.cons (.idx (.var 1) (.con (.int 0))) (.cons (.idx (.var 1) (.con (.int 1))) (.cons (.idx (.var 1) (.con (.int 2))) .nil))))) .nil)))))
abbrev st46 : Stmt := top 67
def N46 : List Str := ["word", "values", "told", "e"]
def P46 : List Str := ["word", "values"]
def b46 : Ss := (.cons (.try_ (.cons (.asg (.v 2) (.call 45 (.cons (.var 0) (.cons (.var 1) .nil)))) .nil) (.cons [1] 3 (.cons (.ret (.lst (.cons (.con (.str "InvalidPolynomial")) (.cons (.bi .repr (.cons (.excf 0) .nil)) (.cons (.excis "_law_is_value") .nil))))) .nil) (.cons [0] 3 (.cons (.ret (.lst (.cons (.con (.str "InvalidRatio")) (.cons (.bi .repr (.cons (.excf 0) .nil)) (.cons (.excis "_law_is_value") .nil))))) .nil) (.cons [3] 3 (.cons (.ret (.lst (.cons (.con (.str "InvalidPosition")) (.cons (.bi .repr (.cons (.excf 0) .nil)) (.cons (.excis "_law_is_value") .nil))))) .nil) (.cons [2] 3 (.cons (.ret (.lst (.cons (.con (.str "InvalidMany")) (.cons (.bi .repr (.cons (.excf 0) .nil)) (.cons (.excis "_law_is_value") .nil))))) .nil) (.cons [4] 3 (.cons (.ret (.lst (.cons (.con (.str "IsNought")) (.cons (.con (.str "")) (.cons (.andv (.excis "StateError") (.excis "RuntimeError")) .nil))))) .nil) .nil)))))) (.cons (.ret (.lst (.cons (.con (.str "told")) (.cons (.bi .repr (.cons (.var 2) .nil)) (.cons (.con (.bl true)) .nil))))) .nil))
abbrev st47 : Stmt := top 69
def N47 : List Str := ["name", "value"]
def P47 : List Str := ["name", "value"]
def b47 : Ss := (.cons (.ret (.lst (.cons (.var 0) (.cons (.bi .repr (.cons (.var 1) .nil)) (.cons (.con (.bl true)) .nil))))) .nil)
abbrev st48 : Stmt := top 70
def N48 : List Str := []
def P48 : List Str := []
def b48 : Ss := (.cons (.ret (.lst (.cons (.lst (.cons (.con (.int 1)) (.cons (.con (.int 2)) .nil))) (.cons (.tup (.cons (.con (.int 1)) (.cons (.con (.int 0)) .nil))) (.cons (.tup (.cons (.con (.int 0)) .nil)) (.cons (.tup (.cons (.con (.bl true)) (.cons (.con (.int 1)) .nil))) (.cons (.tup (.cons (.con (.str "1")) (.cons (.con (.int 1)) .nil))) (.cons (.tup (.cons (.con (.int 1)) (.cons (.con .non) .nil))) (.cons (.con .non) (.cons (.con (.int 5)) (.cons (.con (.str "1 1")) (.cons (.bin .mul (.tup (.cons (.con (.int 1)) .nil)) (.con (.int 14))) (.cons (.tup (.cons (.bin .add (.bin .pow (.con (.int 10)) (.con (.int 6))) (.con (.int 1))) (.cons (.con (.int 1)) .nil))) (.cons (.tup (.cons (.con (.int 1)) (.cons (.bin .sub (.neg (.bin .pow (.con (.int 10)) (.con (.int 6)))) (.con (.int 1))) .nil))) (.cons (.tup (.cons (.tup (.cons (.con (.int 1)) (.cons (.con (.int 2)) .nil))) (.cons (.con (.int 1)) .nil))) (.cons (.tup (.cons (.con (.int 1)) (.cons (.con (.bl false)) .nil))) .nil)))))))))))))))) .nil)
abbrev st49 : Stmt := top 71
def N49 : List Str := []
def P49 : List Str := []
def b49 : Ss := (.cons (.ret (.lst (.cons (.tup (.cons (.con (.int 2)) (.cons (.con (.int 4)) .nil))) (.cons (.tup (.cons (.con (.int 1)) (.cons (.con (.int 0)) .nil))) (.cons (.tup (.cons (.con (.int 1)) (.cons (.neg (.con (.int 1))) .nil))) (.cons (.tup (.cons (.con (.int 0)) (.cons (.con (.int 2)) .nil))) (.cons (.lst (.cons (.con (.int 1)) (.cons (.con (.int 2)) .nil))) (.cons (.tup (.cons (.con (.int 1)) .nil)) (.cons (.tup (.cons (.con (.int 1)) (.cons (.con (.int 2)) (.cons (.con (.int 3)) .nil)))) (.cons (.con (.int 1)) (.cons (.con .non) (.cons (.tup (.cons (.con (.bl true)) (.cons (.con (.int 1)) .nil))) (.cons (.tup (.cons (.con (.int 1)) (.cons (.con (.bl true)) .nil))) (.cons (.tup (.cons (.con (.str "1")) (.cons (.con (.int 2)) .nil))) (.cons (.tup (.cons (.neg (.con (.int 3))) (.cons (.neg (.con (.int 2))) .nil))) .nil))))))))))))))) .nil)
abbrev st50 : Stmt := top 72
def N50 : List Str := ["pot", "wrong", "bad", "due", "told"]
def P50 : List Str := ["pot"]
def b50 : Ss := (.cons (.asg (.v 1) (.call 44 (.cons (.var 0) (.cons (.call 48 .nil) .nil)))) (.cons (.asg (.v 2) (.call 44 (.cons (.var 0) (.cons (.call 49 .nil) .nil)))) (.cons (.asg (.v 3) (.call 47 (.cons (.con (.str "InvalidPolynomial")) (.cons (.var 1) .nil)))) (.cons (.asg (.v 4) (.lst (.cons (.call 46 (.cons (.con (.str "signs")) (.cons (.lst (.cons (.var 1) .nil)) .nil))) (.cons (.call 46 (.cons (.con (.str "real")) (.cons (.lst (.cons (.var 1) .nil)) .nil))) (.cons (.call 46 (.cons (.con (.str "between")) (.cons (.lst (.cons (.var 1) (.cons (.var 2) (.cons (.var 2) .nil)))) .nil))) (.cons (.call 46 (.cons (.con (.str "above")) (.cons (.lst (.cons (.var 1) (.cons (.var 2) .nil))) .nil))) (.cons (.call 46 (.cons (.con (.str "floor")) (.cons (.lst (.cons (.var 1) (.cons (.con (.bl true)) (.cons (.neg (.con (.int 1))) .nil)))) .nil))) .nil))))))) (.cons (.ret (.cmp .eq (.var 4) (.bin .mul (.lst (.cons (.var 3) .nil)) (.con (.int 5))))) .nil)))))
abbrev st51 : Stmt := top 73
def N51 : List Str := ["pot", "polynomial", "bad", "worse", "here", "told", "due"]
def P51 : List Str := ["pot", "polynomial"]
def b51 : Ss := (.cons (.par 2 3 (.call 44 (.cons (.var 0) (.cons (.call 49 .nil) .nil))) (.call 44 (.cons (.var 0) (.cons (.call 49 .nil) .nil)))) (.cons (.for_ (.v 4) (.seq (.tup (.cons (.var 1) (.cons (.tup .nil) .nil)))) (.cons (.asg (.v 5) (.lst (.cons (.call 46 (.cons (.con (.str "between")) (.cons (.lst (.cons (.var 4) (.cons (.var 2) (.cons (.var 3) .nil)))) .nil))) (.cons (.call 46 (.cons (.con (.str "between")) (.cons (.lst (.cons (.var 4) (.cons (.tup (.cons (.con (.int 1)) (.cons (.con (.int 2)) .nil))) (.cons (.var 3) .nil)))) .nil))) (.cons (.call 46 (.cons (.con (.str "above")) (.cons (.lst (.cons (.var 4) (.cons (.var 3) .nil))) .nil))) .nil))))) (.cons (.asg (.v 6) (.bin .add (.lst (.cons (.call 47 (.cons (.con (.str "InvalidRatio")) (.cons (.var 2) .nil))) .nil)) (.bin .mul (.lst (.cons (.call 47 (.cons (.con (.str "InvalidRatio")) (.cons (.var 3) .nil))) .nil)) (.con (.int 2))))) (.cons (.ifs (.cmp .ne (.var 5) (.var 6)) (.cons (.ret (.con (.bl false))) .nil) .nil) .nil)))) (.cons (.ret (.con (.bl true))) .nil)))
abbrev st52 : Stmt := top 74
def N52 : List Str := ["pot", "odd", "told"]
def P52 : List Str := ["pot"]
def b52 : Ss := (.cons (.asg (.v 1) (.call 44 (.cons (.var 0) (.cons (.lst (.cons (.con (.bl true)) (.cons (.neg (.con (.int 1))) (.cons (.con .non) (.cons (.con (.str "0")) (.cons (.con (.int 0)) (.cons (.tup (.cons (.con (.int 0)) .nil)) .nil))))))) .nil)))) (.cons (.asg (.v 2) (.lst (.cons (.call 46 (.cons (.con (.str "real")) (.cons (.lst (.cons (.tup .nil) .nil)) .nil))) (.cons (.call 46 (.cons (.con (.str "between")) (.cons (.lst (.cons (.tup .nil) (.cons (.tup (.cons (.con (.int 1)) (.cons (.con (.int 1)) .nil))) (.cons (.tup (.cons (.con (.int 0)) (.cons (.con (.int 1)) .nil))) .nil)))) .nil))) (.cons (.call 46 (.cons (.con (.str "above")) (.cons (.lst (.cons (.tup .nil) (.cons (.tup (.cons (.con (.int 0)) (.cons (.con (.int 1)) .nil))) .nil))) .nil))) (.cons (.call 46 (.cons (.con (.str "floor")) (.cons (.lst (.cons (.tup .nil) (.cons (.var 1) (.cons (.var 1) .nil)))) .nil))) .nil)))))) (.cons (.ret (.andv (.cmp .eq (.var 2) (.bin .mul (.lst (.cons (.lst (.cons (.con (.str "IsNought")) (.cons (.con (.str "")) (.cons (.con (.bl true)) .nil)))) .nil)) (.con (.int 4)))) (.cmp .eq (.call 46 (.cons (.con (.str "signs")) (.cons (.lst (.cons (.tup .nil) .nil)) .nil))) (.call 47 (.cons (.con (.str "told")) (.cons (.con (.int 0)) .nil)))))) .nil)))
abbrev st53 : Stmt := top 75
def N53 : List Str := ["pot"]
def P53 : List Str := ["pot"]
def b53 : Ss := (.cons (.ret (.call 44 (.cons (.var 0) (.cons (.lst (.cons (.tup (.cons (.tup (.cons (.con (.int 1)) (.cons (.con (.int 0)) (.cons (.con (.int 1)) .nil)))) (.cons (.con (.int 0)) .nil))) (.cons (.tup (.cons (.tup (.cons (.con (.int 7)) .nil)) (.cons (.con (.int 0)) .nil))) (.cons (.tup (.cons (.tup (.cons (.con (.int 0)) (.cons (.con (.int 0)) (.cons (.con (.int 1)) .nil)))) (.cons (.con (.int 1)) .nil))) (.cons (.tup (.cons (.tup (.cons (.con (.int 1)) (.cons (.neg (.con (.int 3))) (.cons (.con (.int 1)) .nil)))) (.cons (.con (.int 2)) .nil))) (.cons (.tup (.cons (.tup (.cons (.neg (.con (.int 2))) (.cons (.con (.int 0)) (.cons (.con (.int 1)) .nil)))) (.cons (.con (.int 2)) .nil))) (.cons (.tup (.cons (.tup (.cons (.con (.int 0)) (.cons (.neg (.con (.int 1))) (.cons (.con (.int 0)) (.cons (.con (.int 1)) .nil))))) (.cons (.con (.int 3)) .nil))) (.cons (.tup (.cons (.tup (.cons (.neg (.con (.int 3))) .nil)) (.cons (.con (.int 0)) .nil))) .nil)))))))) .nil)))) .nil)
abbrev st54 : Stmt := top 76
def N54 : List Str := ["pot", "polynomial", "many", "odd", "told", "position"]
def P54 : List Str := ["pot", "polynomial", "many"]
def b54 : Ss := (.cons (.for_ (.v 3) (.seq (.tup (.cons (.con (.bl true)) (.cons (.neg (.con (.int 1))) (.cons (.con .non) (.cons (.con (.str "0")) (.cons (.tup (.cons (.con (.int 0)) .nil)) (.cons (.var 2) (.cons (.bin .add (.var 2) (.con (.int 3))) .nil))))))))) (.cons (.asg (.v 4) (.call 46 (.cons (.con (.str "floor")) (.cons (.lst (.cons (.var 1) (.cons (.var 3) (.cons (.call 44 (.cons (.var 0) (.cons (.lst (.cons (.neg (.con (.int 1))) (.cons (.con (.int 401)) (.cons (.con (.int 3)) (.cons (.con .non) .nil))))) .nil))) .nil)))) .nil)))) (.cons (.ifs (.cmp .ne (.var 4) (.call 47 (.cons (.con (.str "InvalidPosition")) (.cons (.var 3) .nil)))) (.cons (.ret (.con (.bl false))) .nil) .nil) .nil))) (.cons (.ifs (.cmp .eq (.var 2) (.con (.int 0))) (.cons (.ret (.con (.bl true))) .nil) .nil) (.cons (.asg (.v 5) (.call 43 (.cons (.var 0) (.cons (.var 2) .nil)))) (.cons (.for_ (.v 3) (.seq (.tup (.cons (.con (.bl true)) (.cons (.neg (.con (.int 1))) (.cons (.con (.int 401)) (.cons (.con .non) (.cons (.con (.str "2")) (.cons (.lst (.cons (.con (.int 1)) .nil)) (.cons (.bin .pow (.con (.int 10)) (.con (.int 30))) .nil))))))))) (.cons (.asg (.v 4) (.call 46 (.cons (.con (.str "floor")) (.cons (.lst (.cons (.var 1) (.cons (.var 5) (.cons (.var 3) .nil)))) .nil)))) (.cons (.ifs (.cmp .ne (.var 4) (.call 47 (.cons (.con (.str "InvalidMany")) (.cons (.var 3) .nil)))) (.cons (.ret (.con (.bl false))) .nil) .nil) .nil))) (.cons (.ret (.andv (.cmp .eq (.idx (.call 46 (.cons (.con (.str "floor")) (.cons (.lst (.cons (.var 1) (.cons (.var 5) (.cons (.con (.int 400)) .nil)))) .nil))) (.con (.int 0))) (.con (.str "told"))) (.cmp .eq (.idx (.call 46 (.cons (.con (.str "floor")) (.cons (.lst (.cons (.var 1) (.cons (.var 5) (.cons (.con (.int 0)) .nil)))) .nil))) (.con (.int 0))) (.con (.str "told"))))) .nil)))))
abbrev st55 : Stmt := top 77
def N55 : List Str := ["script", "pot", "polynomial", "many"]
def P55 : List Str := ["script"]
def b55 : Ss := (.cons (.asg (.v 1) (.call 42 (.cons (.var 0) (.cons (.con (.int 0)) .nil)))) (.cons (.asg (.tup (.cons (.v 2) (.cons (.v 3) .nil))) (.call 53 (.cons (.var 1) .nil))) (.cons (.ifs (.cmp .ne (.call 46 (.cons (.con (.str "real")) (.cons (.lst (.cons (.var 2) .nil)) .nil))) (.call 47 (.cons (.con (.str "told")) (.cons (.var 3) .nil)))) (.cons (.ret (.con (.bl false))) .nil) .nil) (.cons (.ifs (.or (.not (.tr (.call 50 (.cons (.var 1) .nil)))) (.not (.tr (.call 51 (.cons (.var 1) (.cons (.var 2) .nil)))))) (.cons (.ret (.con (.bl false))) .nil) .nil) (.cons (.ret (.andv (.call 52 (.cons (.var 1) .nil)) (.call 54 (.cons (.var 1) (.cons (.var 2) (.cons (.var 3) .nil)))))) .nil)))))
abbrev sth0 : Stmt := top 68
def its : List Item := [⟨"is_integer", st0, N0, P0, b0⟩, ⟨"is_count", st1, N1, P1, b1⟩, ⟨"check_many", st2, N2, P2, b2⟩, ⟨"sign_of", st3, N3, P3, b3⟩, ⟨"trimmed", st4, N4, P4, b4⟩, ⟨"negated", st5, N5, P5, b5⟩, ⟨"slope", st6, N6, P6, b6⟩, ⟨"worth_times", st7, N7, P7, b7⟩, ⟨"divided", st8, N8, P8, b8⟩, ⟨"content", st9, N9, P9, b9⟩, ⟨"reduced", st10, N10, P10, b10⟩, ⟨"bare", st11, N11, P11, b11⟩, ⟨"kept_rest", st12, N12, P12, b12⟩, ⟨"signed_rests", st13, N13, P13, b13⟩, ⟨"common_part", st14, N14, P14, b14⟩, ⟨"single", st15, N15, P15, b15⟩, ⟨"is_ratio", st16, N16, P16, b16⟩, ⟨"check_ratio", st17, N17, P17, b17⟩, ⟨"ratio_compared", st18, N18, P18, b18⟩, ⟨"is_polynomial", st19, N19, P19, b19⟩, ⟨"check_polynomial", st20, N20, P20, b20⟩, ⟨"changes", st21, N21, P21, b21⟩, ⟨"sign_changes", st22, N22, P22, b22⟩, ⟨"sturm_row", st23, N23, P23, b23⟩, ⟨"changes_at", st24, N24, P24, b24⟩, ⟨"changes_far_above", st25, N25, P25, b25⟩, ⟨"changes_far_below", st26, N26, P26, b26⟩, ⟨"roots_in_all", st27, N27, P27, b27⟩, ⟨"roots_above", st28, N28, P28, b28⟩, ⟨"is_root", st29, N29, P29, b29⟩, ⟨"roots_from", st30, N30, P30, b30⟩, ⟨"roots_between", st31, N31, P31, b31⟩, ⟨"root_bound", st32, N32, P32, b32⟩, ⟨"whole_floor", st33, N33, P33, b33⟩, ⟨"sign_just_below", st34, N34, P34, b34⟩, ⟨"is_only_root", st35, N35, P35, b35⟩, ⟨"floor_of_root", st36, N36, P36, b36⟩, ⟨"check_not_nought", st37, N37, P37, b37⟩, ⟨"real_count", st38, N38, P38, b38⟩, ⟨"count_between", st39, N39, P39, b39⟩, ⟨"count_above", st40, N40, P40, b40⟩, ⟨"root_floor", st41, N41, P41, b41⟩, ⟨"_law_pot", st42, N42, P42, b42⟩, ⟨"_law_draw", st43, N43, P43, b43⟩, ⟨"_law_pick", st44, N44, P44, b44⟩, ⟨"_law_told", st45, N45, P45, b45⟩, ⟨"_law_raised", st46, N46, P46, b46⟩, ⟨"_law_due", st47, N47, P47, b47⟩, ⟨"_law_wrong_polynomials", st48, N48, P48, b48⟩, ⟨"_law_wrong_ratios", st49, N49, P49, b49⟩, ⟨"_law_polynomials_right", st50, N50, P50, b50⟩, ⟨"_law_ratios_right", st51, N51, P51, b51⟩, ⟨"_law_nought_right", st52, N52, P52, b52⟩, ⟨"_law_some", st53, N53, P53, b53⟩, ⟨"_law_positions_right", st54, N54, P54, b54⟩, ⟨"law", st55, N55, P55, b55⟩]
def c0 : Cfx where
  cf := { N := [], kind := fun _ => none, fn := its.map fun it => (it.x, it.ps), kw := [], con := [("MOST_NUMBERS", .int 13), ("MOST_SIZE", .int 1000000), ("MOST_PLACES", .int 400)], bn := ["abs", "bool", "divmod", "enumerate", "int", "isinstance", "len", "list", "max", "range", "repr", "reversed", "tuple"], gcd := true }
  ex := [("InvalidMany", 2, true), ("InvalidRatio", 0, true), ("InvalidPolynomial", 1, true), ("IsNought", 4, false), ("InvalidPosition", 3, true)]
  hd := [("IsNought", [4]), ("InvalidMany", [2]), ("InvalidPosition", [3]), ("InvalidRatio", [0]), ("InvalidPolynomial", [1])]
  fs := [["value"], ["value"], ["value"], ["value"], []]
  cl := ["RuntimeError", "StateError"]
  hot := ["_law_is_value"]
def sub : Nat → Str → Option Bool := fun k x => ([((0, "RuntimeError"), false), ((0, "StateError"), false), ((1, "RuntimeError"), false), ((1, "StateError"), false), ((2, "RuntimeError"), false), ((2, "StateError"), false), ((3, "RuntimeError"), false), ((3, "StateError"), false), ((4, "RuntimeError"), true), ((4, "StateError"), true), ((0, "_law_is_value"), true), ((1, "_law_is_value"), true), ((2, "_law_is_value"), true), ((3, "_law_is_value"), true), ((4, "_law_is_value"), false)] : List ((Nat × Str) × Bool)).lookup (k, x)
theorem sc0 : FnScope N0 P0 (defScope st0) := ⟨rfl, rfl, rfl, by decide +kernel, rfl, by decide +kernel, by decide +kernel⟩
theorem ok0 : Item.Ok c0 ⟨"is_integer", st0, N0, P0, b0⟩ := ⟨sc0, by decide +kernel⟩
theorem sc1 : FnScope N1 P1 (defScope st1) := ⟨rfl, rfl, rfl, by decide +kernel, rfl, by decide +kernel, by decide +kernel⟩
theorem ok1 : Item.Ok c0 ⟨"is_count", st1, N1, P1, b1⟩ := ⟨sc1, by decide +kernel⟩
theorem sc2 : FnScope N2 P2 (defScope st2) := ⟨rfl, rfl, rfl, by decide +kernel, rfl, by decide +kernel, by decide +kernel⟩
theorem ok2 : Item.Ok c0 ⟨"check_many", st2, N2, P2, b2⟩ := ⟨sc2, by decide +kernel⟩
theorem sc3 : FnScope N3 P3 (defScope st3) := ⟨rfl, rfl, rfl, by decide +kernel, rfl, by decide +kernel, by decide +kernel⟩
theorem ok3 : Item.Ok c0 ⟨"sign_of", st3, N3, P3, b3⟩ := ⟨sc3, by decide +kernel⟩
theorem sc4 : FnScope N4 P4 (defScope st4) := ⟨rfl, rfl, rfl, by decide +kernel, rfl, by decide +kernel, by decide +kernel⟩
theorem ok4 : Item.Ok c0 ⟨"trimmed", st4, N4, P4, b4⟩ := ⟨sc4, by decide +kernel⟩
theorem sc5 : FnScope N5 P5 (defScope st5) := ⟨rfl, rfl, rfl, by decide +kernel, rfl, by decide +kernel, by decide +kernel⟩
theorem ok5 : Item.Ok c0 ⟨"negated", st5, N5, P5, b5⟩ := ⟨sc5, by decide +kernel⟩
theorem sc6 : FnScope N6 P6 (defScope st6) := ⟨rfl, rfl, rfl, by decide +kernel, rfl, by decide +kernel, by decide +kernel⟩
theorem ok6 : Item.Ok c0 ⟨"slope", st6, N6, P6, b6⟩ := ⟨sc6, by decide +kernel⟩
theorem sc7 : FnScope N7 P7 (defScope st7) := ⟨rfl, rfl, rfl, by decide +kernel, rfl, by decide +kernel, by decide +kernel⟩
theorem ok7 : Item.Ok c0 ⟨"worth_times", st7, N7, P7, b7⟩ := ⟨sc7, by decide +kernel⟩
theorem sc8 : FnScope N8 P8 (defScope st8) := ⟨rfl, rfl, rfl, by decide +kernel, rfl, by decide +kernel, by decide +kernel⟩
theorem ok8 : Item.Ok c0 ⟨"divided", st8, N8, P8, b8⟩ := ⟨sc8, by decide +kernel⟩
theorem sc9 : FnScope N9 P9 (defScope st9) := ⟨rfl, rfl, rfl, by decide +kernel, rfl, by decide +kernel, by decide +kernel⟩
theorem ok9 : Item.Ok c0 ⟨"content", st9, N9, P9, b9⟩ := ⟨sc9, by decide +kernel⟩
theorem sc10 : FnScope N10 P10 (defScope st10) := ⟨rfl, rfl, rfl, by decide +kernel, rfl, by decide +kernel, by decide +kernel⟩
theorem ok10 : Item.Ok c0 ⟨"reduced", st10, N10, P10, b10⟩ := ⟨sc10, by decide +kernel⟩
theorem sc11 : FnScope N11 P11 (defScope st11) := ⟨rfl, rfl, rfl, by decide +kernel, rfl, by decide +kernel, by decide +kernel⟩
theorem ok11 : Item.Ok c0 ⟨"bare", st11, N11, P11, b11⟩ := ⟨sc11, by decide +kernel⟩
theorem sc12 : FnScope N12 P12 (defScope st12) := ⟨rfl, rfl, rfl, by decide +kernel, rfl, by decide +kernel, by decide +kernel⟩
theorem ok12 : Item.Ok c0 ⟨"kept_rest", st12, N12, P12, b12⟩ := ⟨sc12, by decide +kernel⟩
theorem sc13 : FnScope N13 P13 (defScope st13) := ⟨rfl, rfl, rfl, by decide +kernel, rfl, by decide +kernel, by decide +kernel⟩
theorem ok13 : Item.Ok c0 ⟨"signed_rests", st13, N13, P13, b13⟩ := ⟨sc13, by decide +kernel⟩
theorem sc14 : FnScope N14 P14 (defScope st14) := ⟨rfl, rfl, rfl, by decide +kernel, rfl, by decide +kernel, by decide +kernel⟩
theorem ok14 : Item.Ok c0 ⟨"common_part", st14, N14, P14, b14⟩ := ⟨sc14, by decide +kernel⟩
theorem sc15 : FnScope N15 P15 (defScope st15) := ⟨rfl, rfl, rfl, by decide +kernel, rfl, by decide +kernel, by decide +kernel⟩
theorem ok15 : Item.Ok c0 ⟨"single", st15, N15, P15, b15⟩ := ⟨sc15, by decide +kernel⟩
theorem sc16 : FnScope N16 P16 (defScope st16) := ⟨rfl, rfl, rfl, by decide +kernel, rfl, by decide +kernel, by decide +kernel⟩
theorem ok16 : Item.Ok c0 ⟨"is_ratio", st16, N16, P16, b16⟩ := ⟨sc16, by decide +kernel⟩
theorem sc17 : FnScope N17 P17 (defScope st17) := ⟨rfl, rfl, rfl, by decide +kernel, rfl, by decide +kernel, by decide +kernel⟩
theorem ok17 : Item.Ok c0 ⟨"check_ratio", st17, N17, P17, b17⟩ := ⟨sc17, by decide +kernel⟩
theorem sc18 : FnScope N18 P18 (defScope st18) := ⟨rfl, rfl, rfl, by decide +kernel, rfl, by decide +kernel, by decide +kernel⟩
theorem ok18 : Item.Ok c0 ⟨"ratio_compared", st18, N18, P18, b18⟩ := ⟨sc18, by decide +kernel⟩
theorem sc19 : FnScope N19 P19 (defScope st19) := ⟨rfl, rfl, rfl, by decide +kernel, rfl, by decide +kernel, by decide +kernel⟩
theorem ok19 : Item.Ok c0 ⟨"is_polynomial", st19, N19, P19, b19⟩ := ⟨sc19, by decide +kernel⟩
theorem sc20 : FnScope N20 P20 (defScope st20) := ⟨rfl, rfl, rfl, by decide +kernel, rfl, by decide +kernel, by decide +kernel⟩
theorem ok20 : Item.Ok c0 ⟨"check_polynomial", st20, N20, P20, b20⟩ := ⟨sc20, by decide +kernel⟩
theorem sc21 : FnScope N21 P21 (defScope st21) := ⟨rfl, rfl, rfl, by decide +kernel, rfl, by decide +kernel, by decide +kernel⟩
theorem ok21 : Item.Ok c0 ⟨"changes", st21, N21, P21, b21⟩ := ⟨sc21, by decide +kernel⟩
theorem sc22 : FnScope N22 P22 (defScope st22) := ⟨rfl, rfl, rfl, by decide +kernel, rfl, by decide +kernel, by decide +kernel⟩
theorem ok22 : Item.Ok c0 ⟨"sign_changes", st22, N22, P22, b22⟩ := ⟨sc22, by decide +kernel⟩
theorem sc23 : FnScope N23 P23 (defScope st23) := ⟨rfl, rfl, rfl, by decide +kernel, rfl, by decide +kernel, by decide +kernel⟩
theorem ok23 : Item.Ok c0 ⟨"sturm_row", st23, N23, P23, b23⟩ := ⟨sc23, by decide +kernel⟩
theorem sc24 : FnScope N24 P24 (defScope st24) := ⟨rfl, rfl, rfl, by decide +kernel, rfl, by decide +kernel, by decide +kernel⟩
theorem ok24 : Item.Ok c0 ⟨"changes_at", st24, N24, P24, b24⟩ := ⟨sc24, by decide +kernel⟩
theorem sc25 : FnScope N25 P25 (defScope st25) := ⟨rfl, rfl, rfl, by decide +kernel, rfl, by decide +kernel, by decide +kernel⟩
theorem ok25 : Item.Ok c0 ⟨"changes_far_above", st25, N25, P25, b25⟩ := ⟨sc25, by decide +kernel⟩
theorem sc26 : FnScope N26 P26 (defScope st26) := ⟨rfl, rfl, rfl, by decide +kernel, rfl, by decide +kernel, by decide +kernel⟩
theorem ok26 : Item.Ok c0 ⟨"changes_far_below", st26, N26, P26, b26⟩ := ⟨sc26, by decide +kernel⟩
theorem sc27 : FnScope N27 P27 (defScope st27) := ⟨rfl, rfl, rfl, by decide +kernel, rfl, by decide +kernel, by decide +kernel⟩
theorem ok27 : Item.Ok c0 ⟨"roots_in_all", st27, N27, P27, b27⟩ := ⟨sc27, by decide +kernel⟩
theorem sc28 : FnScope N28 P28 (defScope st28) := ⟨rfl, rfl, rfl, by decide +kernel, rfl, by decide +kernel, by decide +kernel⟩
theorem ok28 : Item.Ok c0 ⟨"roots_above", st28, N28, P28, b28⟩ := ⟨sc28, by decide +kernel⟩
theorem sc29 : FnScope N29 P29 (defScope st29) := ⟨rfl, rfl, rfl, by decide +kernel, rfl, by decide +kernel, by decide +kernel⟩
theorem ok29 : Item.Ok c0 ⟨"is_root", st29, N29, P29, b29⟩ := ⟨sc29, by decide +kernel⟩
theorem sc30 : FnScope N30 P30 (defScope st30) := ⟨rfl, rfl, rfl, by decide +kernel, rfl, by decide +kernel, by decide +kernel⟩
theorem ok30 : Item.Ok c0 ⟨"roots_from", st30, N30, P30, b30⟩ := ⟨sc30, by decide +kernel⟩
theorem sc31 : FnScope N31 P31 (defScope st31) := ⟨rfl, rfl, rfl, by decide +kernel, rfl, by decide +kernel, by decide +kernel⟩
theorem ok31 : Item.Ok c0 ⟨"roots_between", st31, N31, P31, b31⟩ := ⟨sc31, by decide +kernel⟩
theorem sc32 : FnScope N32 P32 (defScope st32) := ⟨rfl, rfl, rfl, by decide +kernel, rfl, by decide +kernel, by decide +kernel⟩
theorem ok32 : Item.Ok c0 ⟨"root_bound", st32, N32, P32, b32⟩ := ⟨sc32, by decide +kernel⟩
theorem sc33 : FnScope N33 P33 (defScope st33) := ⟨rfl, rfl, rfl, by decide +kernel, rfl, by decide +kernel, by decide +kernel⟩
theorem ok33 : Item.Ok c0 ⟨"whole_floor", st33, N33, P33, b33⟩ := ⟨sc33, by decide +kernel⟩
theorem sc34 : FnScope N34 P34 (defScope st34) := ⟨rfl, rfl, rfl, by decide +kernel, rfl, by decide +kernel, by decide +kernel⟩
theorem ok34 : Item.Ok c0 ⟨"sign_just_below", st34, N34, P34, b34⟩ := ⟨sc34, by decide +kernel⟩
theorem sc35 : FnScope N35 P35 (defScope st35) := ⟨rfl, rfl, rfl, by decide +kernel, rfl, by decide +kernel, by decide +kernel⟩
theorem ok35 : Item.Ok c0 ⟨"is_only_root", st35, N35, P35, b35⟩ := ⟨sc35, by decide +kernel⟩
theorem sc36 : FnScope N36 P36 (defScope st36) := ⟨rfl, rfl, rfl, by decide +kernel, rfl, by decide +kernel, by decide +kernel⟩
theorem ok36 : Item.Ok c0 ⟨"floor_of_root", st36, N36, P36, b36⟩ := ⟨sc36, by decide +kernel⟩
theorem sc37 : FnScope N37 P37 (defScope st37) := ⟨rfl, rfl, rfl, by decide +kernel, rfl, by decide +kernel, by decide +kernel⟩
theorem ok37 : Item.Ok c0 ⟨"check_not_nought", st37, N37, P37, b37⟩ := ⟨sc37, by decide +kernel⟩
theorem sc38 : FnScope N38 P38 (defScope st38) := ⟨rfl, rfl, rfl, by decide +kernel, rfl, by decide +kernel, by decide +kernel⟩
theorem ok38 : Item.Ok c0 ⟨"real_count", st38, N38, P38, b38⟩ := ⟨sc38, by decide +kernel⟩
theorem sc39 : FnScope N39 P39 (defScope st39) := ⟨rfl, rfl, rfl, by decide +kernel, rfl, by decide +kernel, by decide +kernel⟩
theorem ok39 : Item.Ok c0 ⟨"count_between", st39, N39, P39, b39⟩ := ⟨sc39, by decide +kernel⟩
theorem sc40 : FnScope N40 P40 (defScope st40) := ⟨rfl, rfl, rfl, by decide +kernel, rfl, by decide +kernel, by decide +kernel⟩
theorem ok40 : Item.Ok c0 ⟨"count_above", st40, N40, P40, b40⟩ := ⟨sc40, by decide +kernel⟩
theorem sc41 : FnScope N41 P41 (defScope st41) := ⟨rfl, rfl, rfl, by decide +kernel, rfl, by decide +kernel, by decide +kernel⟩
theorem ok41 : Item.Ok c0 ⟨"root_floor", st41, N41, P41, b41⟩ := ⟨sc41, by decide +kernel⟩
theorem sc42 : FnScope N42 P42 (defScope st42) := ⟨rfl, rfl, rfl, by decide +kernel, rfl, by decide +kernel, by decide +kernel⟩
theorem ok42 : Item.Ok c0 ⟨"_law_pot", st42, N42, P42, b42⟩ := ⟨sc42, by decide +kernel⟩
theorem sc43 : FnScope N43 P43 (defScope st43) := ⟨rfl, rfl, rfl, by decide +kernel, rfl, by decide +kernel, by decide +kernel⟩
theorem ok43 : Item.Ok c0 ⟨"_law_draw", st43, N43, P43, b43⟩ := ⟨sc43, by decide +kernel⟩
theorem sc44 : FnScope N44 P44 (defScope st44) := ⟨rfl, rfl, rfl, by decide +kernel, rfl, by decide +kernel, by decide +kernel⟩
theorem ok44 : Item.Ok c0 ⟨"_law_pick", st44, N44, P44, b44⟩ := ⟨sc44, by decide +kernel⟩
theorem sc45 : FnScope N45 P45 (defScope st45) := ⟨rfl, rfl, rfl, by decide +kernel, rfl, by decide +kernel, by decide +kernel⟩
theorem ok45 : Item.Ok c0 ⟨"_law_told", st45, N45, P45, b45⟩ := ⟨sc45, by decide +kernel⟩
theorem sc46 : FnScope N46 P46 (defScope st46) := ⟨rfl, rfl, rfl, by decide +kernel, rfl, by decide +kernel, by decide +kernel⟩
theorem ok46 : Item.Ok c0 ⟨"_law_raised", st46, N46, P46, b46⟩ := ⟨sc46, by decide +kernel⟩
theorem sc47 : FnScope N47 P47 (defScope st47) := ⟨rfl, rfl, rfl, by decide +kernel, rfl, by decide +kernel, by decide +kernel⟩
theorem ok47 : Item.Ok c0 ⟨"_law_due", st47, N47, P47, b47⟩ := ⟨sc47, by decide +kernel⟩
theorem sc48 : FnScope N48 P48 (defScope st48) := ⟨rfl, rfl, rfl, by decide +kernel, rfl, by decide +kernel, by decide +kernel⟩
theorem ok48 : Item.Ok c0 ⟨"_law_wrong_polynomials", st48, N48, P48, b48⟩ := ⟨sc48, by decide +kernel⟩
theorem sc49 : FnScope N49 P49 (defScope st49) := ⟨rfl, rfl, rfl, by decide +kernel, rfl, by decide +kernel, by decide +kernel⟩
theorem ok49 : Item.Ok c0 ⟨"_law_wrong_ratios", st49, N49, P49, b49⟩ := ⟨sc49, by decide +kernel⟩
theorem sc50 : FnScope N50 P50 (defScope st50) := ⟨rfl, rfl, rfl, by decide +kernel, rfl, by decide +kernel, by decide +kernel⟩
theorem ok50 : Item.Ok c0 ⟨"_law_polynomials_right", st50, N50, P50, b50⟩ := ⟨sc50, by decide +kernel⟩
theorem sc51 : FnScope N51 P51 (defScope st51) := ⟨rfl, rfl, rfl, by decide +kernel, rfl, by decide +kernel, by decide +kernel⟩
theorem ok51 : Item.Ok c0 ⟨"_law_ratios_right", st51, N51, P51, b51⟩ := ⟨sc51, by decide +kernel⟩
theorem sc52 : FnScope N52 P52 (defScope st52) := ⟨rfl, rfl, rfl, by decide +kernel, rfl, by decide +kernel, by decide +kernel⟩
theorem ok52 : Item.Ok c0 ⟨"_law_nought_right", st52, N52, P52, b52⟩ := ⟨sc52, by decide +kernel⟩
theorem sc53 : FnScope N53 P53 (defScope st53) := ⟨rfl, rfl, rfl, by decide +kernel, rfl, by decide +kernel, by decide +kernel⟩
theorem ok53 : Item.Ok c0 ⟨"_law_some", st53, N53, P53, b53⟩ := ⟨sc53, by decide +kernel⟩
theorem sc54 : FnScope N54 P54 (defScope st54) := ⟨rfl, rfl, rfl, by decide +kernel, rfl, by decide +kernel, by decide +kernel⟩
theorem ok54 : Item.Ok c0 ⟨"_law_positions_right", st54, N54, P54, b54⟩ := ⟨sc54, by decide +kernel⟩
theorem sc55 : FnScope N55 P55 (defScope st55) := ⟨rfl, rfl, rfl, by decide +kernel, rfl, by decide +kernel, by decide +kernel⟩
theorem ok55 : Item.Ok c0 ⟨"law", st55, N55, P55, b55⟩ := ⟨sc55, by decide +kernel⟩
theorem all_ok : ∀ it ∈ its, it.Ok c0 := by
  intro it h
  simp only [its, List.mem_cons, List.not_mem_nil, or_false] at h
  rcases h with rfl | rfl | rfl | rfl | rfl | rfl | rfl | rfl | rfl | rfl | rfl | rfl | rfl | rfl | rfl | rfl | rfl | rfl | rfl | rfl | rfl | rfl | rfl | rfl | rfl | rfl | rfl | rfl | rfl | rfl | rfl | rfl | rfl | rfl | rfl | rfl | rfl | rfl | rfl | rfl | rfl | rfl | rfl | rfl | rfl | rfl | rfl | rfl | rfl | rfl | rfl | rfl | rfl | rfl | rfl | rfl
  · exact ok0
  · exact ok1
  · exact ok2
  · exact ok3
  · exact ok4
  · exact ok5
  · exact ok6
  · exact ok7
  · exact ok8
  · exact ok9
  · exact ok10
  · exact ok11
  · exact ok12
  · exact ok13
  · exact ok14
  · exact ok15
  · exact ok16
  · exact ok17
  · exact ok18
  · exact ok19
  · exact ok20
  · exact ok21
  · exact ok22
  · exact ok23
  · exact ok24
  · exact ok25
  · exact ok26
  · exact ok27
  · exact ok28
  · exact ok29
  · exact ok30
  · exact ok31
  · exact ok32
  · exact ok33
  · exact ok34
  · exact ok35
  · exact ok36
  · exact ok37
  · exact ok38
  · exact ok39
  · exact ok40
  · exact ok41
  · exact ok42
  · exact ok43
  · exact ok44
  · exact ok45
  · exact ok46
  · exact ok47
  · exact ok48
  · exact ok49
  · exact ok50
  · exact ok51
  · exact ok52
  · exact ok53
  · exact ok54
  · exact ok55
end K16
set_option Elab.async false
set_option linter.all false
set_option autoImplicit false
set_option maxRecDepth 100000
set_option maxHeartbeats 8000000
namespace K16
open PySem PySem.Spec PyProof.Rows L2 Sh
abbrev BM4 : List Value := [.type "RuntimeError", .type "Exception", .type "BaseException", .type "object"]
def WH : Nat := 2 ^ 200
abbrev DP : Nat := 12
set_option linter.unusedVariables false in
theorem all_mk {P : Program} {w : World} {K : PySem.W.Frag} {h : Heap} {mg : Str → Option Value} {fa : Addr} (X : K.In h) (G : h.Ns mainGlobals mg) (hfa : mg "law" = some (.ref fa))
    {C0 : Addr}
    {nm0 q0 : Str} {Na0 : Addr} {bs0 bm0 : List Value} {sn0 : List Str} {sb0 : List Value} {ab0 : Bool} {co0 : Option Bool} {dd0 : Option Addr} {x0a x0b x0c x0d x0e : Option Value}
    {g0 : Addr} {god0 gan0 : Option Addr} {gsl0 : Array (Option Value)} {goc0 gkV0 gdc0 gpm0 gcd0 gct0 : Value}
    {C1 : Addr}
    {nm1 q1 : Str} {Na1 : Addr} {bs1 bm1 : List Value} {sn1 : List Str} {sb1 : List Value} {ab1 : Bool} {co1 : Option Bool} {dd1 : Option Addr} {x1a x1b x1c x1d x1e : Option Value}
    {g1 : Addr} {god1 gan1 : Option Addr} {gsl1 : Array (Option Value)} {goc1 gkV1 gdc1 gpm1 gcd1 gct1 : Value}
    {C2 : Addr}
    {nm2 q2 : Str} {Na2 : Addr} {bs2 bm2 : List Value} {sn2 : List Str} {sb2 : List Value} {ab2 : Bool} {co2 : Option Bool} {dd2 : Option Addr} {x2a x2b x2c x2d x2e : Option Value}
    {g2 : Addr} {god2 gan2 : Option Addr} {gsl2 : Array (Option Value)} {goc2 gkV2 gdc2 gpm2 gcd2 gct2 : Value}
    {C3 : Addr}
    {nm3 q3 : Str} {Na3 : Addr} {bs3 bm3 : List Value} {sn3 : List Str} {sb3 : List Value} {ab3 : Bool} {co3 : Option Bool} {dd3 : Option Addr} {x3a x3b x3c x3d x3e : Option Value}
    {g3 : Addr} {god3 gan3 : Option Addr} {gsl3 : Array (Option Value)} {goc3 gkV3 gdc3 gpm3 gcd3 gct3 : Value}
    {C4 : Addr}
    {C5 : Addr}
    {C6 : Addr}
    {fh0 : Addr} {odh0 anh0 : Option Addr} {slh0 : Array (Option Value)} {och0 kVh0 dch0 pmh0 cdh0 cth0 : Value}
    {tk_MOST_NUMBERS : Tok}
    {tk_MOST_SIZE : Tok}
    {tk_MOST_PLACES : Tok}
    {f0 : Addr} {od0 an0 : Option Addr} {sl0 : Array (Option Value)} {oc0 kV0 dc0 pm0 cd0 ct0 : Value}
    {f1 : Addr} {od1 an1 : Option Addr} {sl1 : Array (Option Value)} {oc1 kV1 dc1 pm1 cd1 ct1 : Value}
    {f2 : Addr} {od2 an2 : Option Addr} {sl2 : Array (Option Value)} {oc2 kV2 dc2 pm2 cd2 ct2 : Value}
    {f3 : Addr} {od3 an3 : Option Addr} {sl3 : Array (Option Value)} {oc3 kV3 dc3 pm3 cd3 ct3 : Value}
    {f4 : Addr} {od4 an4 : Option Addr} {sl4 : Array (Option Value)} {oc4 kV4 dc4 pm4 cd4 ct4 : Value}
    {f5 : Addr} {od5 an5 : Option Addr} {sl5 : Array (Option Value)} {oc5 kV5 dc5 pm5 cd5 ct5 : Value}
    {f6 : Addr} {od6 an6 : Option Addr} {sl6 : Array (Option Value)} {oc6 kV6 dc6 pm6 cd6 ct6 : Value}
    {f7 : Addr} {od7 an7 : Option Addr} {sl7 : Array (Option Value)} {oc7 kV7 dc7 pm7 cd7 ct7 : Value}
    {f8 : Addr} {od8 an8 : Option Addr} {sl8 : Array (Option Value)} {oc8 kV8 dc8 pm8 cd8 ct8 : Value}
    {f9 : Addr} {od9 an9 : Option Addr} {sl9 : Array (Option Value)} {oc9 kV9 dc9 pm9 cd9 ct9 : Value}
    {f10 : Addr} {od10 an10 : Option Addr} {sl10 : Array (Option Value)} {oc10 kV10 dc10 pm10 cd10 ct10 : Value}
    {f11 : Addr} {od11 an11 : Option Addr} {sl11 : Array (Option Value)} {oc11 kV11 dc11 pm11 cd11 ct11 : Value}
    {f12 : Addr} {od12 an12 : Option Addr} {sl12 : Array (Option Value)} {oc12 kV12 dc12 pm12 cd12 ct12 : Value}
    {f13 : Addr} {od13 an13 : Option Addr} {sl13 : Array (Option Value)} {oc13 kV13 dc13 pm13 cd13 ct13 : Value}
    {f14 : Addr} {od14 an14 : Option Addr} {sl14 : Array (Option Value)} {oc14 kV14 dc14 pm14 cd14 ct14 : Value}
    {f15 : Addr} {od15 an15 : Option Addr} {sl15 : Array (Option Value)} {oc15 kV15 dc15 pm15 cd15 ct15 : Value}
    {f16 : Addr} {od16 an16 : Option Addr} {sl16 : Array (Option Value)} {oc16 kV16 dc16 pm16 cd16 ct16 : Value}
    {f17 : Addr} {od17 an17 : Option Addr} {sl17 : Array (Option Value)} {oc17 kV17 dc17 pm17 cd17 ct17 : Value}
    {f18 : Addr} {od18 an18 : Option Addr} {sl18 : Array (Option Value)} {oc18 kV18 dc18 pm18 cd18 ct18 : Value}
    {f19 : Addr} {od19 an19 : Option Addr} {sl19 : Array (Option Value)} {oc19 kV19 dc19 pm19 cd19 ct19 : Value}
    {f20 : Addr} {od20 an20 : Option Addr} {sl20 : Array (Option Value)} {oc20 kV20 dc20 pm20 cd20 ct20 : Value}
    {f21 : Addr} {od21 an21 : Option Addr} {sl21 : Array (Option Value)} {oc21 kV21 dc21 pm21 cd21 ct21 : Value}
    {f22 : Addr} {od22 an22 : Option Addr} {sl22 : Array (Option Value)} {oc22 kV22 dc22 pm22 cd22 ct22 : Value}
    {f23 : Addr} {od23 an23 : Option Addr} {sl23 : Array (Option Value)} {oc23 kV23 dc23 pm23 cd23 ct23 : Value}
    {f24 : Addr} {od24 an24 : Option Addr} {sl24 : Array (Option Value)} {oc24 kV24 dc24 pm24 cd24 ct24 : Value}
    {f25 : Addr} {od25 an25 : Option Addr} {sl25 : Array (Option Value)} {oc25 kV25 dc25 pm25 cd25 ct25 : Value}
    {f26 : Addr} {od26 an26 : Option Addr} {sl26 : Array (Option Value)} {oc26 kV26 dc26 pm26 cd26 ct26 : Value}
    {f27 : Addr} {od27 an27 : Option Addr} {sl27 : Array (Option Value)} {oc27 kV27 dc27 pm27 cd27 ct27 : Value}
    {f28 : Addr} {od28 an28 : Option Addr} {sl28 : Array (Option Value)} {oc28 kV28 dc28 pm28 cd28 ct28 : Value}
    {f29 : Addr} {od29 an29 : Option Addr} {sl29 : Array (Option Value)} {oc29 kV29 dc29 pm29 cd29 ct29 : Value}
    {f30 : Addr} {od30 an30 : Option Addr} {sl30 : Array (Option Value)} {oc30 kV30 dc30 pm30 cd30 ct30 : Value}
    {f31 : Addr} {od31 an31 : Option Addr} {sl31 : Array (Option Value)} {oc31 kV31 dc31 pm31 cd31 ct31 : Value}
    {f32 : Addr} {od32 an32 : Option Addr} {sl32 : Array (Option Value)} {oc32 kV32 dc32 pm32 cd32 ct32 : Value}
    {f33 : Addr} {od33 an33 : Option Addr} {sl33 : Array (Option Value)} {oc33 kV33 dc33 pm33 cd33 ct33 : Value}
    {f34 : Addr} {od34 an34 : Option Addr} {sl34 : Array (Option Value)} {oc34 kV34 dc34 pm34 cd34 ct34 : Value}
    {f35 : Addr} {od35 an35 : Option Addr} {sl35 : Array (Option Value)} {oc35 kV35 dc35 pm35 cd35 ct35 : Value}
    {f36 : Addr} {od36 an36 : Option Addr} {sl36 : Array (Option Value)} {oc36 kV36 dc36 pm36 cd36 ct36 : Value}
    {f37 : Addr} {od37 an37 : Option Addr} {sl37 : Array (Option Value)} {oc37 kV37 dc37 pm37 cd37 ct37 : Value}
    {f38 : Addr} {od38 an38 : Option Addr} {sl38 : Array (Option Value)} {oc38 kV38 dc38 pm38 cd38 ct38 : Value}
    {f39 : Addr} {od39 an39 : Option Addr} {sl39 : Array (Option Value)} {oc39 kV39 dc39 pm39 cd39 ct39 : Value}
    {f40 : Addr} {od40 an40 : Option Addr} {sl40 : Array (Option Value)} {oc40 kV40 dc40 pm40 cd40 ct40 : Value}
    {f41 : Addr} {od41 an41 : Option Addr} {sl41 : Array (Option Value)} {oc41 kV41 dc41 pm41 cd41 ct41 : Value}
    {f42 : Addr} {od42 an42 : Option Addr} {sl42 : Array (Option Value)} {oc42 kV42 dc42 pm42 cd42 ct42 : Value}
    {f43 : Addr} {od43 an43 : Option Addr} {sl43 : Array (Option Value)} {oc43 kV43 dc43 pm43 cd43 ct43 : Value}
    {f44 : Addr} {od44 an44 : Option Addr} {sl44 : Array (Option Value)} {oc44 kV44 dc44 pm44 cd44 ct44 : Value}
    {f45 : Addr} {od45 an45 : Option Addr} {sl45 : Array (Option Value)} {oc45 kV45 dc45 pm45 cd45 ct45 : Value}
    {f46 : Addr} {od46 an46 : Option Addr} {sl46 : Array (Option Value)} {oc46 kV46 dc46 pm46 cd46 ct46 : Value}
    {f47 : Addr} {od47 an47 : Option Addr} {sl47 : Array (Option Value)} {oc47 kV47 dc47 pm47 cd47 ct47 : Value}
    {f48 : Addr} {od48 an48 : Option Addr} {sl48 : Array (Option Value)} {oc48 kV48 dc48 pm48 cd48 ct48 : Value}
    {f49 : Addr} {od49 an49 : Option Addr} {sl49 : Array (Option Value)} {oc49 kV49 dc49 pm49 cd49 ct49 : Value}
    {f50 : Addr} {od50 an50 : Option Addr} {sl50 : Array (Option Value)} {oc50 kV50 dc50 pm50 cd50 ct50 : Value}
    {f51 : Addr} {od51 an51 : Option Addr} {sl51 : Array (Option Value)} {oc51 kV51 dc51 pm51 cd51 ct51 : Value}
    {f52 : Addr} {od52 an52 : Option Addr} {sl52 : Array (Option Value)} {oc52 kV52 dc52 pm52 cd52 ct52 : Value}
    {f53 : Addr} {od53 an53 : Option Addr} {sl53 : Array (Option Value)} {oc53 kV53 dc53 pm53 cd53 ct53 : Value}
    {f54 : Addr} {od54 an54 : Option Addr} {sl54 : Array (Option Value)} {oc54 kV54 dc54 pm54 cd54 ct54 : Value}
    {f55 : Addr} {od55 an55 : Option Addr} {sl55 : Array (Option Value)} {oc55 kV55 dc55 pm55 cd55 ct55 : Value}
    (aC0 : PySem.W.nsIn K mainGlobals "InvalidRatio" = some (some (.ref C0)))
    (su0 : PySem.W.subIn K (.ref C0) (.type "BaseException") = some true)
    (hd0 : PySem.W.hasDictIn K C0 = true)
    (tC0 : PySem.W.typeIn K (.ref C0) = some (.type "type"))
    (ga0 : PySem.W.findIn K (.ref C0) "__getattribute__" = some (some (.builtin "BaseException.__getattribute__")))
    (gg0 : PySem.W.findIn K (.ref C0) "__getattr__" = some none)
    (ha0 : PySem.W.findIn K (.ref C0) "__class__" = some (some (.builtin "object.__class__")))
    (hm0 : PySem.W.mroIn K C0 (.type "object") = some true)
    (kC0 : PySem.W.keepIn K (.ref C0) = true)
    (no0_value : PySem.W.findIn K (.ref C0) "value" = some none)
    (xL0 : K.lookup C0 = some (excClassObj nm0 q0 C0 Na0 bs0 bm0 true sn0 sb0 ab0 co0 dd0 x0a x0b x0c x0d x0e "ValueError.__new__"))
    (bm0_ : Sh.refsT [.type "ValueError", .type "Exception", .type "BaseException", .type "object"] bm0 = true)
    (sa0 : PySem.W.findIn K (.ref C0) "__setattr__" = some (some (.builtin "object.__setattr__")))
    (gi0 : PySem.W.findIn K (.ref C0) "__init__" = some (some (.ref g0)))
    (gt0 : PySem.W.typeIn K (.ref g0) = some (.type "function"))
    (gl0 : K.lookup g0 = some ⟨goc0, god0, .func (PySem.W.fnOf "__init__" "InvalidRatio.__init__" (defArgs (meth 6 0)) (defBody (meth 6 0)) (defScope (meth 6 0)) .none gkV0 gdc0 gpm0 gan0 gcd0 gct0), gsl0⟩)
    (gc0 : PySem.W.codeIn K gcd0 "InvalidRatio.__init__" = true)
    (gk0 : PySem.W.keepIn K (.ref g0) = true)
    (aC1 : PySem.W.nsIn K mainGlobals "InvalidPolynomial" = some (some (.ref C1)))
    (su1 : PySem.W.subIn K (.ref C1) (.type "BaseException") = some true)
    (hd1 : PySem.W.hasDictIn K C1 = true)
    (tC1 : PySem.W.typeIn K (.ref C1) = some (.type "type"))
    (ga1 : PySem.W.findIn K (.ref C1) "__getattribute__" = some (some (.builtin "BaseException.__getattribute__")))
    (gg1 : PySem.W.findIn K (.ref C1) "__getattr__" = some none)
    (ha1 : PySem.W.findIn K (.ref C1) "__class__" = some (some (.builtin "object.__class__")))
    (hm1 : PySem.W.mroIn K C1 (.type "object") = some true)
    (kC1 : PySem.W.keepIn K (.ref C1) = true)
    (no1_value : PySem.W.findIn K (.ref C1) "value" = some none)
    (xL1 : K.lookup C1 = some (excClassObj nm1 q1 C1 Na1 bs1 bm1 true sn1 sb1 ab1 co1 dd1 x1a x1b x1c x1d x1e "ValueError.__new__"))
    (bm1_ : Sh.refsT [.type "ValueError", .type "Exception", .type "BaseException", .type "object"] bm1 = true)
    (sa1 : PySem.W.findIn K (.ref C1) "__setattr__" = some (some (.builtin "object.__setattr__")))
    (gi1 : PySem.W.findIn K (.ref C1) "__init__" = some (some (.ref g1)))
    (gt1 : PySem.W.typeIn K (.ref g1) = some (.type "function"))
    (gl1 : K.lookup g1 = some ⟨goc1, god1, .func (PySem.W.fnOf "__init__" "InvalidPolynomial.__init__" (defArgs (meth 7 0)) (defBody (meth 7 0)) (defScope (meth 7 0)) .none gkV1 gdc1 gpm1 gan1 gcd1 gct1), gsl1⟩)
    (gc1 : PySem.W.codeIn K gcd1 "InvalidPolynomial.__init__" = true)
    (gk1 : PySem.W.keepIn K (.ref g1) = true)
    (aC2 : PySem.W.nsIn K mainGlobals "InvalidMany" = some (some (.ref C2)))
    (su2 : PySem.W.subIn K (.ref C2) (.type "BaseException") = some true)
    (hd2 : PySem.W.hasDictIn K C2 = true)
    (tC2 : PySem.W.typeIn K (.ref C2) = some (.type "type"))
    (ga2 : PySem.W.findIn K (.ref C2) "__getattribute__" = some (some (.builtin "BaseException.__getattribute__")))
    (gg2 : PySem.W.findIn K (.ref C2) "__getattr__" = some none)
    (ha2 : PySem.W.findIn K (.ref C2) "__class__" = some (some (.builtin "object.__class__")))
    (hm2 : PySem.W.mroIn K C2 (.type "object") = some true)
    (kC2 : PySem.W.keepIn K (.ref C2) = true)
    (no2_value : PySem.W.findIn K (.ref C2) "value" = some none)
    (xL2 : K.lookup C2 = some (excClassObj nm2 q2 C2 Na2 bs2 bm2 true sn2 sb2 ab2 co2 dd2 x2a x2b x2c x2d x2e "ValueError.__new__"))
    (bm2_ : Sh.refsT [.type "ValueError", .type "Exception", .type "BaseException", .type "object"] bm2 = true)
    (sa2 : PySem.W.findIn K (.ref C2) "__setattr__" = some (some (.builtin "object.__setattr__")))
    (gi2 : PySem.W.findIn K (.ref C2) "__init__" = some (some (.ref g2)))
    (gt2 : PySem.W.typeIn K (.ref g2) = some (.type "function"))
    (gl2 : K.lookup g2 = some ⟨goc2, god2, .func (PySem.W.fnOf "__init__" "InvalidMany.__init__" (defArgs (meth 8 0)) (defBody (meth 8 0)) (defScope (meth 8 0)) .none gkV2 gdc2 gpm2 gan2 gcd2 gct2), gsl2⟩)
    (gc2 : PySem.W.codeIn K gcd2 "InvalidMany.__init__" = true)
    (gk2 : PySem.W.keepIn K (.ref g2) = true)
    (aC3 : PySem.W.nsIn K mainGlobals "InvalidPosition" = some (some (.ref C3)))
    (su3 : PySem.W.subIn K (.ref C3) (.type "BaseException") = some true)
    (hd3 : PySem.W.hasDictIn K C3 = true)
    (tC3 : PySem.W.typeIn K (.ref C3) = some (.type "type"))
    (ga3 : PySem.W.findIn K (.ref C3) "__getattribute__" = some (some (.builtin "BaseException.__getattribute__")))
    (gg3 : PySem.W.findIn K (.ref C3) "__getattr__" = some none)
    (ha3 : PySem.W.findIn K (.ref C3) "__class__" = some (some (.builtin "object.__class__")))
    (hm3 : PySem.W.mroIn K C3 (.type "object") = some true)
    (kC3 : PySem.W.keepIn K (.ref C3) = true)
    (no3_value : PySem.W.findIn K (.ref C3) "value" = some none)
    (xL3 : K.lookup C3 = some (excClassObj nm3 q3 C3 Na3 bs3 bm3 true sn3 sb3 ab3 co3 dd3 x3a x3b x3c x3d x3e "ValueError.__new__"))
    (bm3_ : Sh.refsT [.type "ValueError", .type "Exception", .type "BaseException", .type "object"] bm3 = true)
    (sa3 : PySem.W.findIn K (.ref C3) "__setattr__" = some (some (.builtin "object.__setattr__")))
    (gi3 : PySem.W.findIn K (.ref C3) "__init__" = some (some (.ref g3)))
    (gt3 : PySem.W.typeIn K (.ref g3) = some (.type "function"))
    (gl3 : K.lookup g3 = some ⟨goc3, god3, .func (PySem.W.fnOf "__init__" "InvalidPosition.__init__" (defArgs (meth 9 0)) (defBody (meth 9 0)) (defScope (meth 9 0)) .none gkV3 gdc3 gpm3 gan3 gcd3 gct3), gsl3⟩)
    (gc3 : PySem.W.codeIn K gcd3 "InvalidPosition.__init__" = true)
    (gk3 : PySem.W.keepIn K (.ref g3) = true)
    (aC4 : PySem.W.nsIn K mainGlobals "IsNought" = some (some (.ref C4)))
    (su4 : PySem.W.subIn K (.ref C4) (.type "BaseException") = some true)
    (hd4 : PySem.W.hasDictIn K C4 = true)
    (tC4 : PySem.W.typeIn K (.ref C4) = some (.type "type"))
    (ga4 : PySem.W.findIn K (.ref C4) "__getattribute__" = some (some (.builtin "BaseException.__getattribute__")))
    (gg4 : PySem.W.findIn K (.ref C4) "__getattr__" = some none)
    (ha4 : PySem.W.findIn K (.ref C4) "__class__" = some (some (.builtin "object.__class__")))
    (hm4 : PySem.W.mroIn K C4 (.type "object") = some true)
    (kC4 : PySem.W.keepIn K (.ref C4) = true)
    (xi4 : PySem.W.excIn K C4 BM4 "RuntimeError.__new__" = true)
    (aC5 : PySem.W.nsIn K mainGlobals "StateError" = some (some (.ref C5)))
    (su5 : PySem.W.subIn K (.ref C5) (.type "BaseException") = some true)
    (hd5 : PySem.W.hasDictIn K C5 = true)
    (tC5 : PySem.W.typeIn K (.ref C5) = some (.type "type"))
    (aC6 : PySem.W.nsIn K mainGlobals "PaceError" = some (some (.ref C6)))
    (su6 : PySem.W.subIn K (.ref C6) (.type "BaseException") = some true)
    (hd6 : PySem.W.hasDictIn K C6 = true)
    (tC6 : PySem.W.typeIn K (.ref C6) = some (.type "type"))
    (sb0_0 : PySem.W.subIn K (.ref C0) (.ref C0) = some true)
    (sb0_1 : PySem.W.subIn K (.ref C0) (.ref C1) = some false)
    (sb0_2 : PySem.W.subIn K (.ref C0) (.ref C2) = some false)
    (sb0_3 : PySem.W.subIn K (.ref C0) (.ref C3) = some false)
    (sb0_4 : PySem.W.subIn K (.ref C0) (.ref C4) = some false)
    (sb0_5 : PySem.W.subIn K (.ref C0) (.ref C5) = some false)
    (sb0_6 : PySem.W.subIn K (.ref C0) (.ref C6) = some true)
    (sb1_0 : PySem.W.subIn K (.ref C1) (.ref C0) = some false)
    (sb1_1 : PySem.W.subIn K (.ref C1) (.ref C1) = some true)
    (sb1_2 : PySem.W.subIn K (.ref C1) (.ref C2) = some false)
    (sb1_3 : PySem.W.subIn K (.ref C1) (.ref C3) = some false)
    (sb1_4 : PySem.W.subIn K (.ref C1) (.ref C4) = some false)
    (sb1_5 : PySem.W.subIn K (.ref C1) (.ref C5) = some false)
    (sb1_6 : PySem.W.subIn K (.ref C1) (.ref C6) = some true)
    (sb2_0 : PySem.W.subIn K (.ref C2) (.ref C0) = some false)
    (sb2_1 : PySem.W.subIn K (.ref C2) (.ref C1) = some false)
    (sb2_2 : PySem.W.subIn K (.ref C2) (.ref C2) = some true)
    (sb2_3 : PySem.W.subIn K (.ref C2) (.ref C3) = some false)
    (sb2_4 : PySem.W.subIn K (.ref C2) (.ref C4) = some false)
    (sb2_5 : PySem.W.subIn K (.ref C2) (.ref C5) = some false)
    (sb2_6 : PySem.W.subIn K (.ref C2) (.ref C6) = some true)
    (sb3_0 : PySem.W.subIn K (.ref C3) (.ref C0) = some false)
    (sb3_1 : PySem.W.subIn K (.ref C3) (.ref C1) = some false)
    (sb3_2 : PySem.W.subIn K (.ref C3) (.ref C2) = some false)
    (sb3_3 : PySem.W.subIn K (.ref C3) (.ref C3) = some true)
    (sb3_4 : PySem.W.subIn K (.ref C3) (.ref C4) = some false)
    (sb3_5 : PySem.W.subIn K (.ref C3) (.ref C5) = some false)
    (sb3_6 : PySem.W.subIn K (.ref C3) (.ref C6) = some true)
    (sb4_0 : PySem.W.subIn K (.ref C4) (.ref C0) = some false)
    (sb4_1 : PySem.W.subIn K (.ref C4) (.ref C1) = some false)
    (sb4_2 : PySem.W.subIn K (.ref C4) (.ref C2) = some false)
    (sb4_3 : PySem.W.subIn K (.ref C4) (.ref C3) = some false)
    (sb4_4 : PySem.W.subIn K (.ref C4) (.ref C4) = some true)
    (sb4_5 : PySem.W.subIn K (.ref C4) (.ref C5) = some true)
    (sb4_6 : PySem.W.subIn K (.ref C4) (.ref C6) = some false)
    (sG : PySem.W.specialIn K (.builtin "object.__class__") "__get__" = some (some (.builtin "getset_descriptor.__get__")))
    (sT : PySem.W.takesIn K (.builtin "object.__class__") = some true)
    (kt0_RuntimeError : PySem.W.kitOne K (.ref C0) (.type "RuntimeError") = some false)
    (ne0_5 : C0 ≠ C5)
    (ne0_6 : C0 ≠ C6)
    (kt0_ValueError : PySem.W.kitOne K (.ref C0) (.type "ValueError") = some true)
    (kt1_RuntimeError : PySem.W.kitOne K (.ref C1) (.type "RuntimeError") = some false)
    (ne1_5 : C1 ≠ C5)
    (ne1_6 : C1 ≠ C6)
    (kt1_ValueError : PySem.W.kitOne K (.ref C1) (.type "ValueError") = some true)
    (kt2_RuntimeError : PySem.W.kitOne K (.ref C2) (.type "RuntimeError") = some false)
    (ne2_5 : C2 ≠ C5)
    (ne2_6 : C2 ≠ C6)
    (kt2_ValueError : PySem.W.kitOne K (.ref C2) (.type "ValueError") = some true)
    (kt3_RuntimeError : PySem.W.kitOne K (.ref C3) (.type "RuntimeError") = some false)
    (ne3_5 : C3 ≠ C5)
    (ne3_6 : C3 ≠ C6)
    (kt3_ValueError : PySem.W.kitOne K (.ref C3) (.type "ValueError") = some true)
    (kt4_RuntimeError : PySem.W.kitOne K (.ref C4) (.type "RuntimeError") = some true)
    (ne4_5 : C4 ≠ C5)
    (ne4_6 : C4 ≠ C6)
    (kt4_ValueError : PySem.W.kitOne K (.ref C4) (.type "ValueError") = some false)
    (z_RuntimeError : PySem.W.nsIn K mainGlobals "RuntimeError" = some none)
    (z_ValueError : PySem.W.nsIn K mainGlobals "ValueError" = some none)
    (ah0 : PySem.W.nsIn K mainGlobals "_law_is_value" = some (some (.ref fh0)))
    (lh0 : K.lookup fh0 = some ⟨och0, odh0, .func (PySem.W.fnOf "_law_is_value" "_law_is_value" (defArgs sth0) (defBody sth0) (defScope sth0) .none kVh0 dch0 pmh0 anh0 cdh0 cth0), slh0⟩)
    (cch0 : PySem.W.codeIn K cdh0 "_law_is_value" = true)
    (kh0 : PySem.W.keepIn K (.ref fh0) = true)
    (z_abs : PySem.W.nsIn K mainGlobals "abs" = some none)
    (z_bool : PySem.W.nsIn K mainGlobals "bool" = some none)
    (z_divmod : PySem.W.nsIn K mainGlobals "divmod" = some none)
    (z_enumerate : PySem.W.nsIn K mainGlobals "enumerate" = some none)
    (z_int : PySem.W.nsIn K mainGlobals "int" = some none)
    (z_isinstance : PySem.W.nsIn K mainGlobals "isinstance" = some none)
    (z_len : PySem.W.nsIn K mainGlobals "len" = some none)
    (z_list : PySem.W.nsIn K mainGlobals "list" = some none)
    (z_max : PySem.W.nsIn K mainGlobals "max" = some none)
    (z_range : PySem.W.nsIn K mainGlobals "range" = some none)
    (z_repr : PySem.W.nsIn K mainGlobals "repr" = some none)
    (z_reversed : PySem.W.nsIn K mainGlobals "reversed" = some none)
    (z_tuple : PySem.W.nsIn K mainGlobals "tuple" = some none)
    (z_gcd : PySem.W.nsIn K mainGlobals "gcd" = some (some (.builtin "math.gcd")))
    (zc_MOST_NUMBERS : PySem.W.nsIn K mainGlobals "MOST_NUMBERS" = some (some (.int 13 tk_MOST_NUMBERS)))
    (zc_MOST_SIZE : PySem.W.nsIn K mainGlobals "MOST_SIZE" = some (some (.int 1000000 tk_MOST_SIZE)))
    (zc_MOST_PLACES : PySem.W.nsIn K mainGlobals "MOST_PLACES" = some (some (.int 400 tk_MOST_PLACES)))
    (a0 : PySem.W.nsIn K mainGlobals "is_integer" = some (some (.ref f0)))
    (l0 : K.lookup f0 = some ⟨oc0, od0, .func (PySem.W.fnOf "is_integer" "is_integer" (defArgs st0) (defBody st0) (defScope st0) .none kV0 dc0 pm0 an0 cd0 ct0), sl0⟩)
    (cc0 : PySem.W.codeIn K cd0 "is_integer" = true)
    (k0 : PySem.W.keepIn K (.ref f0) = true)
    (a1 : PySem.W.nsIn K mainGlobals "is_count" = some (some (.ref f1)))
    (l1 : K.lookup f1 = some ⟨oc1, od1, .func (PySem.W.fnOf "is_count" "is_count" (defArgs st1) (defBody st1) (defScope st1) .none kV1 dc1 pm1 an1 cd1 ct1), sl1⟩)
    (cc1 : PySem.W.codeIn K cd1 "is_count" = true)
    (k1 : PySem.W.keepIn K (.ref f1) = true)
    (a2 : PySem.W.nsIn K mainGlobals "check_many" = some (some (.ref f2)))
    (l2 : K.lookup f2 = some ⟨oc2, od2, .func (PySem.W.fnOf "check_many" "check_many" (defArgs st2) (defBody st2) (defScope st2) .none kV2 dc2 pm2 an2 cd2 ct2), sl2⟩)
    (cc2 : PySem.W.codeIn K cd2 "check_many" = true)
    (k2 : PySem.W.keepIn K (.ref f2) = true)
    (a3 : PySem.W.nsIn K mainGlobals "sign_of" = some (some (.ref f3)))
    (l3 : K.lookup f3 = some ⟨oc3, od3, .func (PySem.W.fnOf "sign_of" "sign_of" (defArgs st3) (defBody st3) (defScope st3) .none kV3 dc3 pm3 an3 cd3 ct3), sl3⟩)
    (cc3 : PySem.W.codeIn K cd3 "sign_of" = true)
    (k3 : PySem.W.keepIn K (.ref f3) = true)
    (a4 : PySem.W.nsIn K mainGlobals "trimmed" = some (some (.ref f4)))
    (l4 : K.lookup f4 = some ⟨oc4, od4, .func (PySem.W.fnOf "trimmed" "trimmed" (defArgs st4) (defBody st4) (defScope st4) .none kV4 dc4 pm4 an4 cd4 ct4), sl4⟩)
    (cc4 : PySem.W.codeIn K cd4 "trimmed" = true)
    (k4 : PySem.W.keepIn K (.ref f4) = true)
    (a5 : PySem.W.nsIn K mainGlobals "negated" = some (some (.ref f5)))
    (l5 : K.lookup f5 = some ⟨oc5, od5, .func (PySem.W.fnOf "negated" "negated" (defArgs st5) (defBody st5) (defScope st5) .none kV5 dc5 pm5 an5 cd5 ct5), sl5⟩)
    (cc5 : PySem.W.codeIn K cd5 "negated" = true)
    (k5 : PySem.W.keepIn K (.ref f5) = true)
    (a6 : PySem.W.nsIn K mainGlobals "slope" = some (some (.ref f6)))
    (l6 : K.lookup f6 = some ⟨oc6, od6, .func (PySem.W.fnOf "slope" "slope" (defArgs st6) (defBody st6) (defScope st6) .none kV6 dc6 pm6 an6 cd6 ct6), sl6⟩)
    (cc6 : PySem.W.codeIn K cd6 "slope" = true)
    (k6 : PySem.W.keepIn K (.ref f6) = true)
    (a7 : PySem.W.nsIn K mainGlobals "worth_times" = some (some (.ref f7)))
    (l7 : K.lookup f7 = some ⟨oc7, od7, .func (PySem.W.fnOf "worth_times" "worth_times" (defArgs st7) (defBody st7) (defScope st7) .none kV7 dc7 pm7 an7 cd7 ct7), sl7⟩)
    (cc7 : PySem.W.codeIn K cd7 "worth_times" = true)
    (k7 : PySem.W.keepIn K (.ref f7) = true)
    (a8 : PySem.W.nsIn K mainGlobals "divided" = some (some (.ref f8)))
    (l8 : K.lookup f8 = some ⟨oc8, od8, .func (PySem.W.fnOf "divided" "divided" (defArgs st8) (defBody st8) (defScope st8) .none kV8 dc8 pm8 an8 cd8 ct8), sl8⟩)
    (cc8 : PySem.W.codeIn K cd8 "divided" = true)
    (k8 : PySem.W.keepIn K (.ref f8) = true)
    (a9 : PySem.W.nsIn K mainGlobals "content" = some (some (.ref f9)))
    (l9 : K.lookup f9 = some ⟨oc9, od9, .func (PySem.W.fnOf "content" "content" (defArgs st9) (defBody st9) (defScope st9) .none kV9 dc9 pm9 an9 cd9 ct9), sl9⟩)
    (cc9 : PySem.W.codeIn K cd9 "content" = true)
    (k9 : PySem.W.keepIn K (.ref f9) = true)
    (a10 : PySem.W.nsIn K mainGlobals "reduced" = some (some (.ref f10)))
    (l10 : K.lookup f10 = some ⟨oc10, od10, .func (PySem.W.fnOf "reduced" "reduced" (defArgs st10) (defBody st10) (defScope st10) .none kV10 dc10 pm10 an10 cd10 ct10), sl10⟩)
    (cc10 : PySem.W.codeIn K cd10 "reduced" = true)
    (k10 : PySem.W.keepIn K (.ref f10) = true)
    (a11 : PySem.W.nsIn K mainGlobals "bare" = some (some (.ref f11)))
    (l11 : K.lookup f11 = some ⟨oc11, od11, .func (PySem.W.fnOf "bare" "bare" (defArgs st11) (defBody st11) (defScope st11) .none kV11 dc11 pm11 an11 cd11 ct11), sl11⟩)
    (cc11 : PySem.W.codeIn K cd11 "bare" = true)
    (k11 : PySem.W.keepIn K (.ref f11) = true)
    (a12 : PySem.W.nsIn K mainGlobals "kept_rest" = some (some (.ref f12)))
    (l12 : K.lookup f12 = some ⟨oc12, od12, .func (PySem.W.fnOf "kept_rest" "kept_rest" (defArgs st12) (defBody st12) (defScope st12) .none kV12 dc12 pm12 an12 cd12 ct12), sl12⟩)
    (cc12 : PySem.W.codeIn K cd12 "kept_rest" = true)
    (k12 : PySem.W.keepIn K (.ref f12) = true)
    (a13 : PySem.W.nsIn K mainGlobals "signed_rests" = some (some (.ref f13)))
    (l13 : K.lookup f13 = some ⟨oc13, od13, .func (PySem.W.fnOf "signed_rests" "signed_rests" (defArgs st13) (defBody st13) (defScope st13) .none kV13 dc13 pm13 an13 cd13 ct13), sl13⟩)
    (cc13 : PySem.W.codeIn K cd13 "signed_rests" = true)
    (k13 : PySem.W.keepIn K (.ref f13) = true)
    (a14 : PySem.W.nsIn K mainGlobals "common_part" = some (some (.ref f14)))
    (l14 : K.lookup f14 = some ⟨oc14, od14, .func (PySem.W.fnOf "common_part" "common_part" (defArgs st14) (defBody st14) (defScope st14) .none kV14 dc14 pm14 an14 cd14 ct14), sl14⟩)
    (cc14 : PySem.W.codeIn K cd14 "common_part" = true)
    (k14 : PySem.W.keepIn K (.ref f14) = true)
    (a15 : PySem.W.nsIn K mainGlobals "single" = some (some (.ref f15)))
    (l15 : K.lookup f15 = some ⟨oc15, od15, .func (PySem.W.fnOf "single" "single" (defArgs st15) (defBody st15) (defScope st15) .none kV15 dc15 pm15 an15 cd15 ct15), sl15⟩)
    (cc15 : PySem.W.codeIn K cd15 "single" = true)
    (k15 : PySem.W.keepIn K (.ref f15) = true)
    (a16 : PySem.W.nsIn K mainGlobals "is_ratio" = some (some (.ref f16)))
    (l16 : K.lookup f16 = some ⟨oc16, od16, .func (PySem.W.fnOf "is_ratio" "is_ratio" (defArgs st16) (defBody st16) (defScope st16) .none kV16 dc16 pm16 an16 cd16 ct16), sl16⟩)
    (cc16 : PySem.W.codeIn K cd16 "is_ratio" = true)
    (k16 : PySem.W.keepIn K (.ref f16) = true)
    (a17 : PySem.W.nsIn K mainGlobals "check_ratio" = some (some (.ref f17)))
    (l17 : K.lookup f17 = some ⟨oc17, od17, .func (PySem.W.fnOf "check_ratio" "check_ratio" (defArgs st17) (defBody st17) (defScope st17) .none kV17 dc17 pm17 an17 cd17 ct17), sl17⟩)
    (cc17 : PySem.W.codeIn K cd17 "check_ratio" = true)
    (k17 : PySem.W.keepIn K (.ref f17) = true)
    (a18 : PySem.W.nsIn K mainGlobals "ratio_compared" = some (some (.ref f18)))
    (l18 : K.lookup f18 = some ⟨oc18, od18, .func (PySem.W.fnOf "ratio_compared" "ratio_compared" (defArgs st18) (defBody st18) (defScope st18) .none kV18 dc18 pm18 an18 cd18 ct18), sl18⟩)
    (cc18 : PySem.W.codeIn K cd18 "ratio_compared" = true)
    (k18 : PySem.W.keepIn K (.ref f18) = true)
    (a19 : PySem.W.nsIn K mainGlobals "is_polynomial" = some (some (.ref f19)))
    (l19 : K.lookup f19 = some ⟨oc19, od19, .func (PySem.W.fnOf "is_polynomial" "is_polynomial" (defArgs st19) (defBody st19) (defScope st19) .none kV19 dc19 pm19 an19 cd19 ct19), sl19⟩)
    (cc19 : PySem.W.codeIn K cd19 "is_polynomial" = true)
    (k19 : PySem.W.keepIn K (.ref f19) = true)
    (a20 : PySem.W.nsIn K mainGlobals "check_polynomial" = some (some (.ref f20)))
    (l20 : K.lookup f20 = some ⟨oc20, od20, .func (PySem.W.fnOf "check_polynomial" "check_polynomial" (defArgs st20) (defBody st20) (defScope st20) .none kV20 dc20 pm20 an20 cd20 ct20), sl20⟩)
    (cc20 : PySem.W.codeIn K cd20 "check_polynomial" = true)
    (k20 : PySem.W.keepIn K (.ref f20) = true)
    (a21 : PySem.W.nsIn K mainGlobals "changes" = some (some (.ref f21)))
    (l21 : K.lookup f21 = some ⟨oc21, od21, .func (PySem.W.fnOf "changes" "changes" (defArgs st21) (defBody st21) (defScope st21) .none kV21 dc21 pm21 an21 cd21 ct21), sl21⟩)
    (cc21 : PySem.W.codeIn K cd21 "changes" = true)
    (k21 : PySem.W.keepIn K (.ref f21) = true)
    (a22 : PySem.W.nsIn K mainGlobals "sign_changes" = some (some (.ref f22)))
    (l22 : K.lookup f22 = some ⟨oc22, od22, .func (PySem.W.fnOf "sign_changes" "sign_changes" (defArgs st22) (defBody st22) (defScope st22) .none kV22 dc22 pm22 an22 cd22 ct22), sl22⟩)
    (cc22 : PySem.W.codeIn K cd22 "sign_changes" = true)
    (k22 : PySem.W.keepIn K (.ref f22) = true)
    (a23 : PySem.W.nsIn K mainGlobals "sturm_row" = some (some (.ref f23)))
    (l23 : K.lookup f23 = some ⟨oc23, od23, .func (PySem.W.fnOf "sturm_row" "sturm_row" (defArgs st23) (defBody st23) (defScope st23) .none kV23 dc23 pm23 an23 cd23 ct23), sl23⟩)
    (cc23 : PySem.W.codeIn K cd23 "sturm_row" = true)
    (k23 : PySem.W.keepIn K (.ref f23) = true)
    (a24 : PySem.W.nsIn K mainGlobals "changes_at" = some (some (.ref f24)))
    (l24 : K.lookup f24 = some ⟨oc24, od24, .func (PySem.W.fnOf "changes_at" "changes_at" (defArgs st24) (defBody st24) (defScope st24) .none kV24 dc24 pm24 an24 cd24 ct24), sl24⟩)
    (cc24 : PySem.W.codeIn K cd24 "changes_at" = true)
    (k24 : PySem.W.keepIn K (.ref f24) = true)
    (a25 : PySem.W.nsIn K mainGlobals "changes_far_above" = some (some (.ref f25)))
    (l25 : K.lookup f25 = some ⟨oc25, od25, .func (PySem.W.fnOf "changes_far_above" "changes_far_above" (defArgs st25) (defBody st25) (defScope st25) .none kV25 dc25 pm25 an25 cd25 ct25), sl25⟩)
    (cc25 : PySem.W.codeIn K cd25 "changes_far_above" = true)
    (k25 : PySem.W.keepIn K (.ref f25) = true)
    (a26 : PySem.W.nsIn K mainGlobals "changes_far_below" = some (some (.ref f26)))
    (l26 : K.lookup f26 = some ⟨oc26, od26, .func (PySem.W.fnOf "changes_far_below" "changes_far_below" (defArgs st26) (defBody st26) (defScope st26) .none kV26 dc26 pm26 an26 cd26 ct26), sl26⟩)
    (cc26 : PySem.W.codeIn K cd26 "changes_far_below" = true)
    (k26 : PySem.W.keepIn K (.ref f26) = true)
    (a27 : PySem.W.nsIn K mainGlobals "roots_in_all" = some (some (.ref f27)))
    (l27 : K.lookup f27 = some ⟨oc27, od27, .func (PySem.W.fnOf "roots_in_all" "roots_in_all" (defArgs st27) (defBody st27) (defScope st27) .none kV27 dc27 pm27 an27 cd27 ct27), sl27⟩)
    (cc27 : PySem.W.codeIn K cd27 "roots_in_all" = true)
    (k27 : PySem.W.keepIn K (.ref f27) = true)
    (a28 : PySem.W.nsIn K mainGlobals "roots_above" = some (some (.ref f28)))
    (l28 : K.lookup f28 = some ⟨oc28, od28, .func (PySem.W.fnOf "roots_above" "roots_above" (defArgs st28) (defBody st28) (defScope st28) .none kV28 dc28 pm28 an28 cd28 ct28), sl28⟩)
    (cc28 : PySem.W.codeIn K cd28 "roots_above" = true)
    (k28 : PySem.W.keepIn K (.ref f28) = true)
    (a29 : PySem.W.nsIn K mainGlobals "is_root" = some (some (.ref f29)))
    (l29 : K.lookup f29 = some ⟨oc29, od29, .func (PySem.W.fnOf "is_root" "is_root" (defArgs st29) (defBody st29) (defScope st29) .none kV29 dc29 pm29 an29 cd29 ct29), sl29⟩)
    (cc29 : PySem.W.codeIn K cd29 "is_root" = true)
    (k29 : PySem.W.keepIn K (.ref f29) = true)
    (a30 : PySem.W.nsIn K mainGlobals "roots_from" = some (some (.ref f30)))
    (l30 : K.lookup f30 = some ⟨oc30, od30, .func (PySem.W.fnOf "roots_from" "roots_from" (defArgs st30) (defBody st30) (defScope st30) .none kV30 dc30 pm30 an30 cd30 ct30), sl30⟩)
    (cc30 : PySem.W.codeIn K cd30 "roots_from" = true)
    (k30 : PySem.W.keepIn K (.ref f30) = true)
    (a31 : PySem.W.nsIn K mainGlobals "roots_between" = some (some (.ref f31)))
    (l31 : K.lookup f31 = some ⟨oc31, od31, .func (PySem.W.fnOf "roots_between" "roots_between" (defArgs st31) (defBody st31) (defScope st31) .none kV31 dc31 pm31 an31 cd31 ct31), sl31⟩)
    (cc31 : PySem.W.codeIn K cd31 "roots_between" = true)
    (k31 : PySem.W.keepIn K (.ref f31) = true)
    (a32 : PySem.W.nsIn K mainGlobals "root_bound" = some (some (.ref f32)))
    (l32 : K.lookup f32 = some ⟨oc32, od32, .func (PySem.W.fnOf "root_bound" "root_bound" (defArgs st32) (defBody st32) (defScope st32) .none kV32 dc32 pm32 an32 cd32 ct32), sl32⟩)
    (cc32 : PySem.W.codeIn K cd32 "root_bound" = true)
    (k32 : PySem.W.keepIn K (.ref f32) = true)
    (a33 : PySem.W.nsIn K mainGlobals "whole_floor" = some (some (.ref f33)))
    (l33 : K.lookup f33 = some ⟨oc33, od33, .func (PySem.W.fnOf "whole_floor" "whole_floor" (defArgs st33) (defBody st33) (defScope st33) .none kV33 dc33 pm33 an33 cd33 ct33), sl33⟩)
    (cc33 : PySem.W.codeIn K cd33 "whole_floor" = true)
    (k33 : PySem.W.keepIn K (.ref f33) = true)
    (a34 : PySem.W.nsIn K mainGlobals "sign_just_below" = some (some (.ref f34)))
    (l34 : K.lookup f34 = some ⟨oc34, od34, .func (PySem.W.fnOf "sign_just_below" "sign_just_below" (defArgs st34) (defBody st34) (defScope st34) .none kV34 dc34 pm34 an34 cd34 ct34), sl34⟩)
    (cc34 : PySem.W.codeIn K cd34 "sign_just_below" = true)
    (k34 : PySem.W.keepIn K (.ref f34) = true)
    (a35 : PySem.W.nsIn K mainGlobals "is_only_root" = some (some (.ref f35)))
    (l35 : K.lookup f35 = some ⟨oc35, od35, .func (PySem.W.fnOf "is_only_root" "is_only_root" (defArgs st35) (defBody st35) (defScope st35) .none kV35 dc35 pm35 an35 cd35 ct35), sl35⟩)
    (cc35 : PySem.W.codeIn K cd35 "is_only_root" = true)
    (k35 : PySem.W.keepIn K (.ref f35) = true)
    (a36 : PySem.W.nsIn K mainGlobals "floor_of_root" = some (some (.ref f36)))
    (l36 : K.lookup f36 = some ⟨oc36, od36, .func (PySem.W.fnOf "floor_of_root" "floor_of_root" (defArgs st36) (defBody st36) (defScope st36) .none kV36 dc36 pm36 an36 cd36 ct36), sl36⟩)
    (cc36 : PySem.W.codeIn K cd36 "floor_of_root" = true)
    (k36 : PySem.W.keepIn K (.ref f36) = true)
    (a37 : PySem.W.nsIn K mainGlobals "check_not_nought" = some (some (.ref f37)))
    (l37 : K.lookup f37 = some ⟨oc37, od37, .func (PySem.W.fnOf "check_not_nought" "check_not_nought" (defArgs st37) (defBody st37) (defScope st37) .none kV37 dc37 pm37 an37 cd37 ct37), sl37⟩)
    (cc37 : PySem.W.codeIn K cd37 "check_not_nought" = true)
    (k37 : PySem.W.keepIn K (.ref f37) = true)
    (a38 : PySem.W.nsIn K mainGlobals "real_count" = some (some (.ref f38)))
    (l38 : K.lookup f38 = some ⟨oc38, od38, .func (PySem.W.fnOf "real_count" "real_count" (defArgs st38) (defBody st38) (defScope st38) .none kV38 dc38 pm38 an38 cd38 ct38), sl38⟩)
    (cc38 : PySem.W.codeIn K cd38 "real_count" = true)
    (k38 : PySem.W.keepIn K (.ref f38) = true)
    (a39 : PySem.W.nsIn K mainGlobals "count_between" = some (some (.ref f39)))
    (l39 : K.lookup f39 = some ⟨oc39, od39, .func (PySem.W.fnOf "count_between" "count_between" (defArgs st39) (defBody st39) (defScope st39) .none kV39 dc39 pm39 an39 cd39 ct39), sl39⟩)
    (cc39 : PySem.W.codeIn K cd39 "count_between" = true)
    (k39 : PySem.W.keepIn K (.ref f39) = true)
    (a40 : PySem.W.nsIn K mainGlobals "count_above" = some (some (.ref f40)))
    (l40 : K.lookup f40 = some ⟨oc40, od40, .func (PySem.W.fnOf "count_above" "count_above" (defArgs st40) (defBody st40) (defScope st40) .none kV40 dc40 pm40 an40 cd40 ct40), sl40⟩)
    (cc40 : PySem.W.codeIn K cd40 "count_above" = true)
    (k40 : PySem.W.keepIn K (.ref f40) = true)
    (a41 : PySem.W.nsIn K mainGlobals "root_floor" = some (some (.ref f41)))
    (l41 : K.lookup f41 = some ⟨oc41, od41, .func (PySem.W.fnOf "root_floor" "root_floor" (defArgs st41) (defBody st41) (defScope st41) .none kV41 dc41 pm41 an41 cd41 ct41), sl41⟩)
    (cc41 : PySem.W.codeIn K cd41 "root_floor" = true)
    (k41 : PySem.W.keepIn K (.ref f41) = true)
    (a42 : PySem.W.nsIn K mainGlobals "_law_pot" = some (some (.ref f42)))
    (l42 : K.lookup f42 = some ⟨oc42, od42, .func (PySem.W.fnOf "_law_pot" "_law_pot" (defArgs st42) (defBody st42) (defScope st42) .none kV42 dc42 pm42 an42 cd42 ct42), sl42⟩)
    (cc42 : PySem.W.codeIn K cd42 "_law_pot" = true)
    (k42 : PySem.W.keepIn K (.ref f42) = true)
    (a43 : PySem.W.nsIn K mainGlobals "_law_draw" = some (some (.ref f43)))
    (l43 : K.lookup f43 = some ⟨oc43, od43, .func (PySem.W.fnOf "_law_draw" "_law_draw" (defArgs st43) (defBody st43) (defScope st43) .none kV43 dc43 pm43 an43 cd43 ct43), sl43⟩)
    (cc43 : PySem.W.codeIn K cd43 "_law_draw" = true)
    (k43 : PySem.W.keepIn K (.ref f43) = true)
    (a44 : PySem.W.nsIn K mainGlobals "_law_pick" = some (some (.ref f44)))
    (l44 : K.lookup f44 = some ⟨oc44, od44, .func (PySem.W.fnOf "_law_pick" "_law_pick" (defArgs st44) (defBody st44) (defScope st44) .none kV44 dc44 pm44 an44 cd44 ct44), sl44⟩)
    (cc44 : PySem.W.codeIn K cd44 "_law_pick" = true)
    (k44 : PySem.W.keepIn K (.ref f44) = true)
    (a45 : PySem.W.nsIn K mainGlobals "_law_told" = some (some (.ref f45)))
    (l45 : K.lookup f45 = some ⟨oc45, od45, .func (PySem.W.fnOf "_law_told" "_law_told" (defArgs st45) (defBody st45) (defScope st45) .none kV45 dc45 pm45 an45 cd45 ct45), sl45⟩)
    (cc45 : PySem.W.codeIn K cd45 "_law_told" = true)
    (k45 : PySem.W.keepIn K (.ref f45) = true)
    (a46 : PySem.W.nsIn K mainGlobals "_law_raised" = some (some (.ref f46)))
    (l46 : K.lookup f46 = some ⟨oc46, od46, .func (PySem.W.fnOf "_law_raised" "_law_raised" (defArgs st46) (defBody st46) (defScope st46) .none kV46 dc46 pm46 an46 cd46 ct46), sl46⟩)
    (cc46 : PySem.W.codeIn K cd46 "_law_raised" = true)
    (k46 : PySem.W.keepIn K (.ref f46) = true)
    (a47 : PySem.W.nsIn K mainGlobals "_law_due" = some (some (.ref f47)))
    (l47 : K.lookup f47 = some ⟨oc47, od47, .func (PySem.W.fnOf "_law_due" "_law_due" (defArgs st47) (defBody st47) (defScope st47) .none kV47 dc47 pm47 an47 cd47 ct47), sl47⟩)
    (cc47 : PySem.W.codeIn K cd47 "_law_due" = true)
    (k47 : PySem.W.keepIn K (.ref f47) = true)
    (a48 : PySem.W.nsIn K mainGlobals "_law_wrong_polynomials" = some (some (.ref f48)))
    (l48 : K.lookup f48 = some ⟨oc48, od48, .func (PySem.W.fnOf "_law_wrong_polynomials" "_law_wrong_polynomials" (defArgs st48) (defBody st48) (defScope st48) .none kV48 dc48 pm48 an48 cd48 ct48), sl48⟩)
    (cc48 : PySem.W.codeIn K cd48 "_law_wrong_polynomials" = true)
    (k48 : PySem.W.keepIn K (.ref f48) = true)
    (a49 : PySem.W.nsIn K mainGlobals "_law_wrong_ratios" = some (some (.ref f49)))
    (l49 : K.lookup f49 = some ⟨oc49, od49, .func (PySem.W.fnOf "_law_wrong_ratios" "_law_wrong_ratios" (defArgs st49) (defBody st49) (defScope st49) .none kV49 dc49 pm49 an49 cd49 ct49), sl49⟩)
    (cc49 : PySem.W.codeIn K cd49 "_law_wrong_ratios" = true)
    (k49 : PySem.W.keepIn K (.ref f49) = true)
    (a50 : PySem.W.nsIn K mainGlobals "_law_polynomials_right" = some (some (.ref f50)))
    (l50 : K.lookup f50 = some ⟨oc50, od50, .func (PySem.W.fnOf "_law_polynomials_right" "_law_polynomials_right" (defArgs st50) (defBody st50) (defScope st50) .none kV50 dc50 pm50 an50 cd50 ct50), sl50⟩)
    (cc50 : PySem.W.codeIn K cd50 "_law_polynomials_right" = true)
    (k50 : PySem.W.keepIn K (.ref f50) = true)
    (a51 : PySem.W.nsIn K mainGlobals "_law_ratios_right" = some (some (.ref f51)))
    (l51 : K.lookup f51 = some ⟨oc51, od51, .func (PySem.W.fnOf "_law_ratios_right" "_law_ratios_right" (defArgs st51) (defBody st51) (defScope st51) .none kV51 dc51 pm51 an51 cd51 ct51), sl51⟩)
    (cc51 : PySem.W.codeIn K cd51 "_law_ratios_right" = true)
    (k51 : PySem.W.keepIn K (.ref f51) = true)
    (a52 : PySem.W.nsIn K mainGlobals "_law_nought_right" = some (some (.ref f52)))
    (l52 : K.lookup f52 = some ⟨oc52, od52, .func (PySem.W.fnOf "_law_nought_right" "_law_nought_right" (defArgs st52) (defBody st52) (defScope st52) .none kV52 dc52 pm52 an52 cd52 ct52), sl52⟩)
    (cc52 : PySem.W.codeIn K cd52 "_law_nought_right" = true)
    (k52 : PySem.W.keepIn K (.ref f52) = true)
    (a53 : PySem.W.nsIn K mainGlobals "_law_some" = some (some (.ref f53)))
    (l53 : K.lookup f53 = some ⟨oc53, od53, .func (PySem.W.fnOf "_law_some" "_law_some" (defArgs st53) (defBody st53) (defScope st53) .none kV53 dc53 pm53 an53 cd53 ct53), sl53⟩)
    (cc53 : PySem.W.codeIn K cd53 "_law_some" = true)
    (k53 : PySem.W.keepIn K (.ref f53) = true)
    (a54 : PySem.W.nsIn K mainGlobals "_law_positions_right" = some (some (.ref f54)))
    (l54 : K.lookup f54 = some ⟨oc54, od54, .func (PySem.W.fnOf "_law_positions_right" "_law_positions_right" (defArgs st54) (defBody st54) (defScope st54) .none kV54 dc54 pm54 an54 cd54 ct54), sl54⟩)
    (cc54 : PySem.W.codeIn K cd54 "_law_positions_right" = true)
    (k54 : PySem.W.keepIn K (.ref f54) = true)
    (a55 : PySem.W.nsIn K mainGlobals "law" = some (some (.ref f55)))
    (l55 : K.lookup f55 = some ⟨oc55, od55, .func (PySem.W.fnOf "law" "law" (defArgs st55) (defBody st55) (defScope st55) .none kV55 dc55 pm55 an55 cd55 ct55), sl55⟩)
    (cc55 : PySem.W.codeIn K cd55 "law" = true)
    (k55 : PySem.W.keepIn K (.ref f55) = true)
    (plain : ∀ ns : List Int, ns.length ≤ 63 → ∃ h', run (fnsOf its) sub WH DP 55 [.frz (ns.map C.int)] [] = .ok (.bl true) h') :
    ∃ fd : FuncData, (∀ (s : Shared) (v : Value), BindsTo s fd ⟨[v], []⟩ [("script", v)]) ∧ ∀ base : Heap, K.In base → base.Ns mainGlobals mg → FnOkG P w K mg base (DP + 2) fa fd ["script"] (sp0 K) := by
  have e := hfa.symm.trans (PySem.W.mg_of X G a55)
  cases e
  have F0 := fun_mk (st := st0) l0 cc0 k0
  have B0 := F0.binds (ps := P0) fun _ _ _ _ _ _ us hl => match us, hl with | [_], _ => rfl
  have F1 := fun_mk (st := st1) l1 cc1 k1
  have B1 := F1.binds (ps := P1) fun _ _ _ _ _ _ us hl => match us, hl with | [_], _ => rfl
  have F2 := fun_mk (st := st2) l2 cc2 k2
  have B2 := F2.binds (ps := P2) fun _ _ _ _ _ _ us hl => match us, hl with | [_, _, _], _ => rfl
  have F3 := fun_mk (st := st3) l3 cc3 k3
  have B3 := F3.binds (ps := P3) fun _ _ _ _ _ _ us hl => match us, hl with | [_], _ => rfl
  have F4 := fun_mk (st := st4) l4 cc4 k4
  have B4 := F4.binds (ps := P4) fun _ _ _ _ _ _ us hl => match us, hl with | [_], _ => rfl
  have F5 := fun_mk (st := st5) l5 cc5 k5
  have B5 := F5.binds (ps := P5) fun _ _ _ _ _ _ us hl => match us, hl with | [_], _ => rfl
  have F6 := fun_mk (st := st6) l6 cc6 k6
  have B6 := F6.binds (ps := P6) fun _ _ _ _ _ _ us hl => match us, hl with | [_], _ => rfl
  have F7 := fun_mk (st := st7) l7 cc7 k7
  have B7 := F7.binds (ps := P7) fun _ _ _ _ _ _ us hl => match us, hl with | [_, _, _], _ => rfl
  have F8 := fun_mk (st := st8) l8 cc8 k8
  have B8 := F8.binds (ps := P8) fun _ _ _ _ _ _ us hl => match us, hl with | [_, _], _ => rfl
  have F9 := fun_mk (st := st9) l9 cc9 k9
  have B9 := F9.binds (ps := P9) fun _ _ _ _ _ _ us hl => match us, hl with | [_], _ => rfl
  have F10 := fun_mk (st := st10) l10 cc10 k10
  have B10 := F10.binds (ps := P10) fun _ _ _ _ _ _ us hl => match us, hl with | [_], _ => rfl
  have F11 := fun_mk (st := st11) l11 cc11 k11
  have B11 := F11.binds (ps := P11) fun _ _ _ _ _ _ us hl => match us, hl with | [_], _ => rfl
  have F12 := fun_mk (st := st12) l12 cc12 k12
  have B12 := F12.binds (ps := P12) fun _ _ _ _ _ _ us hl => match us, hl with | [_, _], _ => rfl
  have F13 := fun_mk (st := st13) l13 cc13 k13
  have B13 := F13.binds (ps := P13) fun _ _ _ _ _ _ us hl => match us, hl with | [_, _], _ => rfl
  have F14 := fun_mk (st := st14) l14 cc14 k14
  have B14 := F14.binds (ps := P14) fun _ _ _ _ _ _ us hl => match us, hl with | [_, _], _ => rfl
  have F15 := fun_mk (st := st15) l15 cc15 k15
  have B15 := F15.binds (ps := P15) fun _ _ _ _ _ _ us hl => match us, hl with | [_], _ => rfl
  have F16 := fun_mk (st := st16) l16 cc16 k16
  have B16 := F16.binds (ps := P16) fun _ _ _ _ _ _ us hl => match us, hl with | [_], _ => rfl
  have F17 := fun_mk (st := st17) l17 cc17 k17
  have B17 := F17.binds (ps := P17) fun _ _ _ _ _ _ us hl => match us, hl with | [_], _ => rfl
  have F18 := fun_mk (st := st18) l18 cc18 k18
  have B18 := F18.binds (ps := P18) fun _ _ _ _ _ _ us hl => match us, hl with | [_, _], _ => rfl
  have F19 := fun_mk (st := st19) l19 cc19 k19
  have B19 := F19.binds (ps := P19) fun _ _ _ _ _ _ us hl => match us, hl with | [_], _ => rfl
  have F20 := fun_mk (st := st20) l20 cc20 k20
  have B20 := F20.binds (ps := P20) fun _ _ _ _ _ _ us hl => match us, hl with | [_], _ => rfl
  have F21 := fun_mk (st := st21) l21 cc21 k21
  have B21 := F21.binds (ps := P21) fun _ _ _ _ _ _ us hl => match us, hl with | [_], _ => rfl
  have F22 := fun_mk (st := st22) l22 cc22 k22
  have B22 := F22.binds (ps := P22) fun _ _ _ _ _ _ us hl => match us, hl with | [_], _ => rfl
  have F23 := fun_mk (st := st23) l23 cc23 k23
  have B23 := F23.binds (ps := P23) fun _ _ _ _ _ _ us hl => match us, hl with | [_], _ => rfl
  have F24 := fun_mk (st := st24) l24 cc24 k24
  have B24 := F24.binds (ps := P24) fun _ _ _ _ _ _ us hl => match us, hl with | [_, _, _], _ => rfl
  have F25 := fun_mk (st := st25) l25 cc25 k25
  have B25 := F25.binds (ps := P25) fun _ _ _ _ _ _ us hl => match us, hl with | [_], _ => rfl
  have F26 := fun_mk (st := st26) l26 cc26 k26
  have B26 := F26.binds (ps := P26) fun _ _ _ _ _ _ us hl => match us, hl with | [_], _ => rfl
  have F27 := fun_mk (st := st27) l27 cc27 k27
  have B27 := F27.binds (ps := P27) fun _ _ _ _ _ _ us hl => match us, hl with | [_], _ => rfl
  have F28 := fun_mk (st := st28) l28 cc28 k28
  have B28 := F28.binds (ps := P28) fun _ _ _ _ _ _ us hl => match us, hl with | [_, _, _], _ => rfl
  have F29 := fun_mk (st := st29) l29 cc29 k29
  have B29 := F29.binds (ps := P29) fun _ _ _ _ _ _ us hl => match us, hl with | [_, _, _], _ => rfl
  have F30 := fun_mk (st := st30) l30 cc30 k30
  have B30 := F30.binds (ps := P30) fun _ _ _ _ _ _ us hl => match us, hl with | [_, _, _], _ => rfl
  have F31 := fun_mk (st := st31) l31 cc31 k31
  have B31 := F31.binds (ps := P31) fun _ _ _ _ _ _ us hl => match us, hl with | [_, _, _], _ => rfl
  have F32 := fun_mk (st := st32) l32 cc32 k32
  have B32 := F32.binds (ps := P32) fun _ _ _ _ _ _ us hl => match us, hl with | [_], _ => rfl
  have F33 := fun_mk (st := st33) l33 cc33 k33
  have B33 := F33.binds (ps := P33) fun _ _ _ _ _ _ us hl => match us, hl with | [_, _], _ => rfl
  have F34 := fun_mk (st := st34) l34 cc34 k34
  have B34 := F34.binds (ps := P34) fun _ _ _ _ _ _ us hl => match us, hl with | [_, _, _], _ => rfl
  have F35 := fun_mk (st := st35) l35 cc35 k35
  have B35 := F35.binds (ps := P35) fun _ _ _ _ _ _ us hl => match us, hl with | [_, _, _], _ => rfl
  have F36 := fun_mk (st := st36) l36 cc36 k36
  have B36 := F36.binds (ps := P36) fun _ _ _ _ _ _ us hl => match us, hl with | [_, _, _], _ => rfl
  have F37 := fun_mk (st := st37) l37 cc37 k37
  have B37 := F37.binds (ps := P37) fun _ _ _ _ _ _ us hl => match us, hl with | [_], _ => rfl
  have F38 := fun_mk (st := st38) l38 cc38 k38
  have B38 := F38.binds (ps := P38) fun _ _ _ _ _ _ us hl => match us, hl with | [_], _ => rfl
  have F39 := fun_mk (st := st39) l39 cc39 k39
  have B39 := F39.binds (ps := P39) fun _ _ _ _ _ _ us hl => match us, hl with | [_, _, _], _ => rfl
  have F40 := fun_mk (st := st40) l40 cc40 k40
  have B40 := F40.binds (ps := P40) fun _ _ _ _ _ _ us hl => match us, hl with | [_, _], _ => rfl
  have F41 := fun_mk (st := st41) l41 cc41 k41
  have B41 := F41.binds (ps := P41) fun _ _ _ _ _ _ us hl => match us, hl with | [_, _, _], _ => rfl
  have F42 := fun_mk (st := st42) l42 cc42 k42
  have B42 := F42.binds (ps := P42) fun _ _ _ _ _ _ us hl => match us, hl with | [_, _], _ => rfl
  have F43 := fun_mk (st := st43) l43 cc43 k43
  have B43 := F43.binds (ps := P43) fun _ _ _ _ _ _ us hl => match us, hl with | [_, _], _ => rfl
  have F44 := fun_mk (st := st44) l44 cc44 k44
  have B44 := F44.binds (ps := P44) fun _ _ _ _ _ _ us hl => match us, hl with | [_, _], _ => rfl
  have F45 := fun_mk (st := st45) l45 cc45 k45
  have B45 := F45.binds (ps := P45) fun _ _ _ _ _ _ us hl => match us, hl with | [_, _], _ => rfl
  have F46 := fun_mk (st := st46) l46 cc46 k46
  have B46 := F46.binds (ps := P46) fun _ _ _ _ _ _ us hl => match us, hl with | [_, _], _ => rfl
  have F47 := fun_mk (st := st47) l47 cc47 k47
  have B47 := F47.binds (ps := P47) fun _ _ _ _ _ _ us hl => match us, hl with | [_, _], _ => rfl
  have F48 := fun_mk (st := st48) l48 cc48 k48
  have B48 := F48.binds (ps := P48) fun _ _ _ _ _ _ us hl => match us, hl with | [], _ => rfl
  have F49 := fun_mk (st := st49) l49 cc49 k49
  have B49 := F49.binds (ps := P49) fun _ _ _ _ _ _ us hl => match us, hl with | [], _ => rfl
  have F50 := fun_mk (st := st50) l50 cc50 k50
  have B50 := F50.binds (ps := P50) fun _ _ _ _ _ _ us hl => match us, hl with | [_], _ => rfl
  have F51 := fun_mk (st := st51) l51 cc51 k51
  have B51 := F51.binds (ps := P51) fun _ _ _ _ _ _ us hl => match us, hl with | [_, _], _ => rfl
  have F52 := fun_mk (st := st52) l52 cc52 k52
  have B52 := F52.binds (ps := P52) fun _ _ _ _ _ _ us hl => match us, hl with | [_], _ => rfl
  have F53 := fun_mk (st := st53) l53 cc53 k53
  have B53 := F53.binds (ps := P53) fun _ _ _ _ _ _ us hl => match us, hl with | [_], _ => rfl
  have F54 := fun_mk (st := st54) l54 cc54 k54
  have B54 := F54.binds (ps := P54) fun _ _ _ _ _ _ us hl => match us, hl with | [_, _, _], _ => rfl
  have F55 := fun_mk (st := st55) l55 cc55 k55
  have B55 := F55.binds (ps := P55) fun _ _ _ _ _ _ us hl => match us, hl with | [_], _ => rfl
  have xc0 : XcC K C0 := xc_mk ga0 gg0 su0 hd0 ha0 sG sT hm0
  have T0 : OexG K C0 := oexG_mk xL0 bm0_ PySem.F.excBase_ValueError PySem.F.store_ValueError sa0 su0 tC0 kC0
  have I0 := fun_mk (st := meth 6 0) gl0 gc0 gk0
  have J0 := I0.binds (ps := ["self", "value"]) fun _ _ _ _ _ _ us hl => match us, hl with | [_, _], _ => rfl
  have xc1 : XcC K C1 := xc_mk ga1 gg1 su1 hd1 ha1 sG sT hm1
  have T1 : OexG K C1 := oexG_mk xL1 bm1_ PySem.F.excBase_ValueError PySem.F.store_ValueError sa1 su1 tC1 kC1
  have I1 := fun_mk (st := meth 7 0) gl1 gc1 gk1
  have J1 := I1.binds (ps := ["self", "value"]) fun _ _ _ _ _ _ us hl => match us, hl with | [_, _], _ => rfl
  have xc2 : XcC K C2 := xc_mk ga2 gg2 su2 hd2 ha2 sG sT hm2
  have T2 : OexG K C2 := oexG_mk xL2 bm2_ PySem.F.excBase_ValueError PySem.F.store_ValueError sa2 su2 tC2 kC2
  have I2 := fun_mk (st := meth 8 0) gl2 gc2 gk2
  have J2 := I2.binds (ps := ["self", "value"]) fun _ _ _ _ _ _ us hl => match us, hl with | [_, _], _ => rfl
  have xc3 : XcC K C3 := xc_mk ga3 gg3 su3 hd3 ha3 sG sT hm3
  have T3 : OexG K C3 := oexG_mk xL3 bm3_ PySem.F.excBase_ValueError PySem.F.store_ValueError sa3 su3 tC3 kC3
  have I3 := fun_mk (st := meth 9 0) gl3 gc3 gk3
  have J3 := I3.binds (ps := ["self", "value"]) fun _ _ _ _ _ _ us hl => match us, hl with | [_, _], _ => rfl
  have xc4 : XcC K C4 := xc_mk ga4 gg4 su4 hd4 ha4 sG sT hm4
  let tb : List (Addr × List Str) := [(C0, (["value"] : List Str)), (C1, (["value"] : List Str)), (C2, (["value"] : List Str)), (C3, (["value"] : List Str)), (C4, ([] : List Str))]
  let et : ETab := fun k => tb[k]?
  have ec : ∀ (kk : Nat) (A : Addr) (f : List Str), et kk = some (A, f) → (kk = 0 ∧ A = C0 ∧ f = (["value"] : List Str)) ∨ (kk = 1 ∧ A = C1 ∧ f = (["value"] : List Str)) ∨ (kk = 2 ∧ A = C2 ∧ f = (["value"] : List Str)) ∨ (kk = 3 ∧ A = C3 ∧ f = (["value"] : List Str)) ∨ (kk = 4 ∧ A = C4 ∧ f = ([] : List Str)) := by
    intro kk A f h
    match kk, h with
    | 0, h => cases h; exact .inl ⟨rfl, rfl, rfl⟩
    | 1, h => cases h; exact .inr (.inl ⟨rfl, rfl, rfl⟩)
    | 2, h => cases h; exact .inr (.inr (.inl ⟨rfl, rfl, rfl⟩))
    | 3, h => cases h; exact .inr (.inr (.inr (.inl ⟨rfl, rfl, rfl⟩)))
    | 4, h => cases h; exact .inr (.inr (.inr (.inr (⟨rfl, rfl, rfl⟩))))
    | n + 5, h => cases h
  have land : ∀ base : Heap, K.In base → base.Ns mainGlobals mg → Land its c0 et sub P w K mg base := fun base Y GB => by
    refine ⟨rfl, all_ok, ?_, ?_, ?_, ?_, ?_, ?_⟩
    · intro i it hi
      match i, hi with
      | 0, hi =>
        cases hi
        refine ⟨_, _, PySem.W.mg_of X G a0, F0, B0, fun n ks perm hk => ?_⟩
        simp only [c0, List.mem_cons, List.not_mem_nil, or_false, Prod.mk.injEq] at hk
      | 1, hi =>
        cases hi
        refine ⟨_, _, PySem.W.mg_of X G a1, F1, B1, fun n ks perm hk => ?_⟩
        simp only [c0, List.mem_cons, List.not_mem_nil, or_false, Prod.mk.injEq] at hk
      | 2, hi =>
        cases hi
        refine ⟨_, _, PySem.W.mg_of X G a2, F2, B2, fun n ks perm hk => ?_⟩
        simp only [c0, List.mem_cons, List.not_mem_nil, or_false, Prod.mk.injEq] at hk
      | 3, hi =>
        cases hi
        refine ⟨_, _, PySem.W.mg_of X G a3, F3, B3, fun n ks perm hk => ?_⟩
        simp only [c0, List.mem_cons, List.not_mem_nil, or_false, Prod.mk.injEq] at hk
      | 4, hi =>
        cases hi
        refine ⟨_, _, PySem.W.mg_of X G a4, F4, B4, fun n ks perm hk => ?_⟩
        simp only [c0, List.mem_cons, List.not_mem_nil, or_false, Prod.mk.injEq] at hk
      | 5, hi =>
        cases hi
        refine ⟨_, _, PySem.W.mg_of X G a5, F5, B5, fun n ks perm hk => ?_⟩
        simp only [c0, List.mem_cons, List.not_mem_nil, or_false, Prod.mk.injEq] at hk
      | 6, hi =>
        cases hi
        refine ⟨_, _, PySem.W.mg_of X G a6, F6, B6, fun n ks perm hk => ?_⟩
        simp only [c0, List.mem_cons, List.not_mem_nil, or_false, Prod.mk.injEq] at hk
      | 7, hi =>
        cases hi
        refine ⟨_, _, PySem.W.mg_of X G a7, F7, B7, fun n ks perm hk => ?_⟩
        simp only [c0, List.mem_cons, List.not_mem_nil, or_false, Prod.mk.injEq] at hk
      | 8, hi =>
        cases hi
        refine ⟨_, _, PySem.W.mg_of X G a8, F8, B8, fun n ks perm hk => ?_⟩
        simp only [c0, List.mem_cons, List.not_mem_nil, or_false, Prod.mk.injEq] at hk
      | 9, hi =>
        cases hi
        refine ⟨_, _, PySem.W.mg_of X G a9, F9, B9, fun n ks perm hk => ?_⟩
        simp only [c0, List.mem_cons, List.not_mem_nil, or_false, Prod.mk.injEq] at hk
      | 10, hi =>
        cases hi
        refine ⟨_, _, PySem.W.mg_of X G a10, F10, B10, fun n ks perm hk => ?_⟩
        simp only [c0, List.mem_cons, List.not_mem_nil, or_false, Prod.mk.injEq] at hk
      | 11, hi =>
        cases hi
        refine ⟨_, _, PySem.W.mg_of X G a11, F11, B11, fun n ks perm hk => ?_⟩
        simp only [c0, List.mem_cons, List.not_mem_nil, or_false, Prod.mk.injEq] at hk
      | 12, hi =>
        cases hi
        refine ⟨_, _, PySem.W.mg_of X G a12, F12, B12, fun n ks perm hk => ?_⟩
        simp only [c0, List.mem_cons, List.not_mem_nil, or_false, Prod.mk.injEq] at hk
      | 13, hi =>
        cases hi
        refine ⟨_, _, PySem.W.mg_of X G a13, F13, B13, fun n ks perm hk => ?_⟩
        simp only [c0, List.mem_cons, List.not_mem_nil, or_false, Prod.mk.injEq] at hk
      | 14, hi =>
        cases hi
        refine ⟨_, _, PySem.W.mg_of X G a14, F14, B14, fun n ks perm hk => ?_⟩
        simp only [c0, List.mem_cons, List.not_mem_nil, or_false, Prod.mk.injEq] at hk
      | 15, hi =>
        cases hi
        refine ⟨_, _, PySem.W.mg_of X G a15, F15, B15, fun n ks perm hk => ?_⟩
        simp only [c0, List.mem_cons, List.not_mem_nil, or_false, Prod.mk.injEq] at hk
      | 16, hi =>
        cases hi
        refine ⟨_, _, PySem.W.mg_of X G a16, F16, B16, fun n ks perm hk => ?_⟩
        simp only [c0, List.mem_cons, List.not_mem_nil, or_false, Prod.mk.injEq] at hk
      | 17, hi =>
        cases hi
        refine ⟨_, _, PySem.W.mg_of X G a17, F17, B17, fun n ks perm hk => ?_⟩
        simp only [c0, List.mem_cons, List.not_mem_nil, or_false, Prod.mk.injEq] at hk
      | 18, hi =>
        cases hi
        refine ⟨_, _, PySem.W.mg_of X G a18, F18, B18, fun n ks perm hk => ?_⟩
        simp only [c0, List.mem_cons, List.not_mem_nil, or_false, Prod.mk.injEq] at hk
      | 19, hi =>
        cases hi
        refine ⟨_, _, PySem.W.mg_of X G a19, F19, B19, fun n ks perm hk => ?_⟩
        simp only [c0, List.mem_cons, List.not_mem_nil, or_false, Prod.mk.injEq] at hk
      | 20, hi =>
        cases hi
        refine ⟨_, _, PySem.W.mg_of X G a20, F20, B20, fun n ks perm hk => ?_⟩
        simp only [c0, List.mem_cons, List.not_mem_nil, or_false, Prod.mk.injEq] at hk
      | 21, hi =>
        cases hi
        refine ⟨_, _, PySem.W.mg_of X G a21, F21, B21, fun n ks perm hk => ?_⟩
        simp only [c0, List.mem_cons, List.not_mem_nil, or_false, Prod.mk.injEq] at hk
      | 22, hi =>
        cases hi
        refine ⟨_, _, PySem.W.mg_of X G a22, F22, B22, fun n ks perm hk => ?_⟩
        simp only [c0, List.mem_cons, List.not_mem_nil, or_false, Prod.mk.injEq] at hk
      | 23, hi =>
        cases hi
        refine ⟨_, _, PySem.W.mg_of X G a23, F23, B23, fun n ks perm hk => ?_⟩
        simp only [c0, List.mem_cons, List.not_mem_nil, or_false, Prod.mk.injEq] at hk
      | 24, hi =>
        cases hi
        refine ⟨_, _, PySem.W.mg_of X G a24, F24, B24, fun n ks perm hk => ?_⟩
        simp only [c0, List.mem_cons, List.not_mem_nil, or_false, Prod.mk.injEq] at hk
      | 25, hi =>
        cases hi
        refine ⟨_, _, PySem.W.mg_of X G a25, F25, B25, fun n ks perm hk => ?_⟩
        simp only [c0, List.mem_cons, List.not_mem_nil, or_false, Prod.mk.injEq] at hk
      | 26, hi =>
        cases hi
        refine ⟨_, _, PySem.W.mg_of X G a26, F26, B26, fun n ks perm hk => ?_⟩
        simp only [c0, List.mem_cons, List.not_mem_nil, or_false, Prod.mk.injEq] at hk
      | 27, hi =>
        cases hi
        refine ⟨_, _, PySem.W.mg_of X G a27, F27, B27, fun n ks perm hk => ?_⟩
        simp only [c0, List.mem_cons, List.not_mem_nil, or_false, Prod.mk.injEq] at hk
      | 28, hi =>
        cases hi
        refine ⟨_, _, PySem.W.mg_of X G a28, F28, B28, fun n ks perm hk => ?_⟩
        simp only [c0, List.mem_cons, List.not_mem_nil, or_false, Prod.mk.injEq] at hk
      | 29, hi =>
        cases hi
        refine ⟨_, _, PySem.W.mg_of X G a29, F29, B29, fun n ks perm hk => ?_⟩
        simp only [c0, List.mem_cons, List.not_mem_nil, or_false, Prod.mk.injEq] at hk
      | 30, hi =>
        cases hi
        refine ⟨_, _, PySem.W.mg_of X G a30, F30, B30, fun n ks perm hk => ?_⟩
        simp only [c0, List.mem_cons, List.not_mem_nil, or_false, Prod.mk.injEq] at hk
      | 31, hi =>
        cases hi
        refine ⟨_, _, PySem.W.mg_of X G a31, F31, B31, fun n ks perm hk => ?_⟩
        simp only [c0, List.mem_cons, List.not_mem_nil, or_false, Prod.mk.injEq] at hk
      | 32, hi =>
        cases hi
        refine ⟨_, _, PySem.W.mg_of X G a32, F32, B32, fun n ks perm hk => ?_⟩
        simp only [c0, List.mem_cons, List.not_mem_nil, or_false, Prod.mk.injEq] at hk
      | 33, hi =>
        cases hi
        refine ⟨_, _, PySem.W.mg_of X G a33, F33, B33, fun n ks perm hk => ?_⟩
        simp only [c0, List.mem_cons, List.not_mem_nil, or_false, Prod.mk.injEq] at hk
      | 34, hi =>
        cases hi
        refine ⟨_, _, PySem.W.mg_of X G a34, F34, B34, fun n ks perm hk => ?_⟩
        simp only [c0, List.mem_cons, List.not_mem_nil, or_false, Prod.mk.injEq] at hk
      | 35, hi =>
        cases hi
        refine ⟨_, _, PySem.W.mg_of X G a35, F35, B35, fun n ks perm hk => ?_⟩
        simp only [c0, List.mem_cons, List.not_mem_nil, or_false, Prod.mk.injEq] at hk
      | 36, hi =>
        cases hi
        refine ⟨_, _, PySem.W.mg_of X G a36, F36, B36, fun n ks perm hk => ?_⟩
        simp only [c0, List.mem_cons, List.not_mem_nil, or_false, Prod.mk.injEq] at hk
      | 37, hi =>
        cases hi
        refine ⟨_, _, PySem.W.mg_of X G a37, F37, B37, fun n ks perm hk => ?_⟩
        simp only [c0, List.mem_cons, List.not_mem_nil, or_false, Prod.mk.injEq] at hk
      | 38, hi =>
        cases hi
        refine ⟨_, _, PySem.W.mg_of X G a38, F38, B38, fun n ks perm hk => ?_⟩
        simp only [c0, List.mem_cons, List.not_mem_nil, or_false, Prod.mk.injEq] at hk
      | 39, hi =>
        cases hi
        refine ⟨_, _, PySem.W.mg_of X G a39, F39, B39, fun n ks perm hk => ?_⟩
        simp only [c0, List.mem_cons, List.not_mem_nil, or_false, Prod.mk.injEq] at hk
      | 40, hi =>
        cases hi
        refine ⟨_, _, PySem.W.mg_of X G a40, F40, B40, fun n ks perm hk => ?_⟩
        simp only [c0, List.mem_cons, List.not_mem_nil, or_false, Prod.mk.injEq] at hk
      | 41, hi =>
        cases hi
        refine ⟨_, _, PySem.W.mg_of X G a41, F41, B41, fun n ks perm hk => ?_⟩
        simp only [c0, List.mem_cons, List.not_mem_nil, or_false, Prod.mk.injEq] at hk
      | 42, hi =>
        cases hi
        refine ⟨_, _, PySem.W.mg_of X G a42, F42, B42, fun n ks perm hk => ?_⟩
        simp only [c0, List.mem_cons, List.not_mem_nil, or_false, Prod.mk.injEq] at hk
      | 43, hi =>
        cases hi
        refine ⟨_, _, PySem.W.mg_of X G a43, F43, B43, fun n ks perm hk => ?_⟩
        simp only [c0, List.mem_cons, List.not_mem_nil, or_false, Prod.mk.injEq] at hk
      | 44, hi =>
        cases hi
        refine ⟨_, _, PySem.W.mg_of X G a44, F44, B44, fun n ks perm hk => ?_⟩
        simp only [c0, List.mem_cons, List.not_mem_nil, or_false, Prod.mk.injEq] at hk
      | 45, hi =>
        cases hi
        refine ⟨_, _, PySem.W.mg_of X G a45, F45, B45, fun n ks perm hk => ?_⟩
        simp only [c0, List.mem_cons, List.not_mem_nil, or_false, Prod.mk.injEq] at hk
      | 46, hi =>
        cases hi
        refine ⟨_, _, PySem.W.mg_of X G a46, F46, B46, fun n ks perm hk => ?_⟩
        simp only [c0, List.mem_cons, List.not_mem_nil, or_false, Prod.mk.injEq] at hk
      | 47, hi =>
        cases hi
        refine ⟨_, _, PySem.W.mg_of X G a47, F47, B47, fun n ks perm hk => ?_⟩
        simp only [c0, List.mem_cons, List.not_mem_nil, or_false, Prod.mk.injEq] at hk
      | 48, hi =>
        cases hi
        refine ⟨_, _, PySem.W.mg_of X G a48, F48, B48, fun n ks perm hk => ?_⟩
        simp only [c0, List.mem_cons, List.not_mem_nil, or_false, Prod.mk.injEq] at hk
      | 49, hi =>
        cases hi
        refine ⟨_, _, PySem.W.mg_of X G a49, F49, B49, fun n ks perm hk => ?_⟩
        simp only [c0, List.mem_cons, List.not_mem_nil, or_false, Prod.mk.injEq] at hk
      | 50, hi =>
        cases hi
        refine ⟨_, _, PySem.W.mg_of X G a50, F50, B50, fun n ks perm hk => ?_⟩
        simp only [c0, List.mem_cons, List.not_mem_nil, or_false, Prod.mk.injEq] at hk
      | 51, hi =>
        cases hi
        refine ⟨_, _, PySem.W.mg_of X G a51, F51, B51, fun n ks perm hk => ?_⟩
        simp only [c0, List.mem_cons, List.not_mem_nil, or_false, Prod.mk.injEq] at hk
      | 52, hi =>
        cases hi
        refine ⟨_, _, PySem.W.mg_of X G a52, F52, B52, fun n ks perm hk => ?_⟩
        simp only [c0, List.mem_cons, List.not_mem_nil, or_false, Prod.mk.injEq] at hk
      | 53, hi =>
        cases hi
        refine ⟨_, _, PySem.W.mg_of X G a53, F53, B53, fun n ks perm hk => ?_⟩
        simp only [c0, List.mem_cons, List.not_mem_nil, or_false, Prod.mk.injEq] at hk
      | 54, hi =>
        cases hi
        refine ⟨_, _, PySem.W.mg_of X G a54, F54, B54, fun n ks perm hk => ?_⟩
        simp only [c0, List.mem_cons, List.not_mem_nil, or_false, Prod.mk.injEq] at hk
      | 55, hi =>
        cases hi
        refine ⟨_, _, PySem.W.mg_of X G a55, F55, B55, fun n ks perm hk => ?_⟩
        simp only [c0, List.mem_cons, List.not_mem_nil, or_false, Prod.mk.injEq] at hk
      | n + 56, hi => cases hi
    · intro x hx
      have hx : x ∈ c0.cf.bn := List.contains_iff_mem.mp hx
      simp only [c0, List.mem_cons, List.not_mem_nil, or_false] at hx
      rcases hx with rfl | rfl | rfl | rfl | rfl | rfl | rfl | rfl | rfl | rfl | rfl | rfl | rfl
      · exact PySem.W.mg_none_of X G z_abs
      · exact PySem.W.mg_none_of X G z_bool
      · exact PySem.W.mg_none_of X G z_divmod
      · exact PySem.W.mg_none_of X G z_enumerate
      · exact PySem.W.mg_none_of X G z_int
      · exact PySem.W.mg_none_of X G z_isinstance
      · exact PySem.W.mg_none_of X G z_len
      · exact PySem.W.mg_none_of X G z_list
      · exact PySem.W.mg_none_of X G z_max
      · exact PySem.W.mg_none_of X G z_range
      · exact PySem.W.mg_none_of X G z_repr
      · exact PySem.W.mg_none_of X G z_reversed
      · exact PySem.W.mg_none_of X G z_tuple
    · exact fun _ => PySem.W.mg_of X G z_gcd
    · intro x c hx
      simp only [c0, List.mem_cons, List.not_mem_nil, or_false, Prod.mk.injEq] at hx
      rcases hx with ⟨rfl, rfl⟩ | ⟨rfl, rfl⟩ | ⟨rfl, rfl⟩
      · exact ⟨.int 13, _, PySem.W.mg_of X G zc_MOST_NUMBERS, ⟨_, rfl⟩, fun _ _ => rfl⟩
      · exact ⟨.int 1000000, _, PySem.W.mg_of X G zc_MOST_SIZE, ⟨_, rfl⟩, fun _ _ => rfl⟩
      · exact ⟨.int 400, _, PySem.W.mg_of X G zc_MOST_PLACES, ⟨_, rfl⟩, fun _ _ => rfl⟩
    · intro k hk
      refine ⟨?_, ?_, ?_, ?_, ?_⟩
      · intro kk A f h
        rcases ec kk A f h with ⟨rfl, rfl, rfl⟩ | ⟨rfl, rfl, rfl⟩ | ⟨rfl, rfl, rfl⟩ | ⟨rfl, rfl, rfl⟩ | ⟨rfl, rfl, rfl⟩
        · exact ⟨rfl, by decide⟩
        · exact ⟨rfl, by decide⟩
        · exact ⟨rfl, by decide⟩
        · exact ⟨rfl, by decide⟩
        · exact ⟨rfl, by decide⟩
      · intro x kk b hx
        have hx : (x, kk, b) ∈ c0.ex := List.contains_iff_mem.mp hx
        simp only [c0, List.mem_cons, List.not_mem_nil, or_false, Prod.mk.injEq] at hx
        rcases hx with ⟨rfl, rfl, rfl⟩ | ⟨rfl, rfl, rfl⟩ | ⟨rfl, rfl, rfl⟩ | ⟨rfl, rfl, rfl⟩ | ⟨rfl, rfl, rfl⟩
        · exact ⟨C2, ["value"], rfl, PySem.W.mg_of X G aC2, .own g2 _ T2 gi2 gt2 1 hk (ini1 I2 rfl ⟨rfl, rfl, rfl, by decide +kernel, rfl, by decide +kernel, by decide +kernel⟩ (by decide) (by decide) T2 no2_value) J2⟩
        · exact ⟨C0, ["value"], rfl, PySem.W.mg_of X G aC0, .own g0 _ T0 gi0 gt0 1 hk (ini1 I0 rfl ⟨rfl, rfl, rfl, by decide +kernel, rfl, by decide +kernel, by decide +kernel⟩ (by decide) (by decide) T0 no0_value) J0⟩
        · exact ⟨C1, ["value"], rfl, PySem.W.mg_of X G aC1, .own g1 _ T1 gi1 gt1 1 hk (ini1 I1 rfl ⟨rfl, rfl, rfl, by decide +kernel, rfl, by decide +kernel, by decide +kernel⟩ (by decide) (by decide) T1 no1_value) J1⟩
        · exact ⟨C4, [], rfl, PySem.W.mg_of X G aC4, .bare BM4 "RuntimeError" "RuntimeError.__new__" "RuntimeError.__init__" PySem.F.excBase_RuntimeError xi4 kC4 tC4 su4 rfl⟩
        · exact ⟨C3, ["value"], rfl, PySem.W.mg_of X G aC3, .own g3 _ T3 gi3 gt3 1 hk (ini1 I3 rfl ⟨rfl, rfl, rfl, by decide +kernel, rfl, by decide +kernel, by decide +kernel⟩ (by decide) (by decide) T3 no3_value) J3⟩
      · intro x ks hx
        have hx : (x, ks) ∈ c0.hd := List.contains_iff_mem.mp hx
        simp only [c0, List.mem_cons, List.not_mem_nil, or_false, Prod.mk.injEq] at hx
        rcases hx with ⟨rfl, rfl⟩ | ⟨rfl, rfl⟩ | ⟨rfl, rfl⟩ | ⟨rfl, rfl⟩ | ⟨rfl, rfl⟩
        · refine ⟨.ref C4, .inl (PySem.W.mg_of X G aC4), fun kk A f h => ?_⟩
          rcases ec kk A f h with ⟨rfl, rfl, rfl⟩ | ⟨rfl, rfl, rfl⟩ | ⟨rfl, rfl, rfl⟩ | ⟨rfl, rfl, rfl⟩ | ⟨rfl, rfl, rfl⟩
          · exact PySem.W.exm_ref su4 hd4 tC4 sb0_4
          · exact PySem.W.exm_ref su4 hd4 tC4 sb1_4
          · exact PySem.W.exm_ref su4 hd4 tC4 sb2_4
          · exact PySem.W.exm_ref su4 hd4 tC4 sb3_4
          · exact PySem.W.exm_ref su4 hd4 tC4 sb4_4
        · refine ⟨.ref C2, .inl (PySem.W.mg_of X G aC2), fun kk A f h => ?_⟩
          rcases ec kk A f h with ⟨rfl, rfl, rfl⟩ | ⟨rfl, rfl, rfl⟩ | ⟨rfl, rfl, rfl⟩ | ⟨rfl, rfl, rfl⟩ | ⟨rfl, rfl, rfl⟩
          · exact PySem.W.exm_ref su2 hd2 tC2 sb0_2
          · exact PySem.W.exm_ref su2 hd2 tC2 sb1_2
          · exact PySem.W.exm_ref su2 hd2 tC2 sb2_2
          · exact PySem.W.exm_ref su2 hd2 tC2 sb3_2
          · exact PySem.W.exm_ref su2 hd2 tC2 sb4_2
        · refine ⟨.ref C3, .inl (PySem.W.mg_of X G aC3), fun kk A f h => ?_⟩
          rcases ec kk A f h with ⟨rfl, rfl, rfl⟩ | ⟨rfl, rfl, rfl⟩ | ⟨rfl, rfl, rfl⟩ | ⟨rfl, rfl, rfl⟩ | ⟨rfl, rfl, rfl⟩
          · exact PySem.W.exm_ref su3 hd3 tC3 sb0_3
          · exact PySem.W.exm_ref su3 hd3 tC3 sb1_3
          · exact PySem.W.exm_ref su3 hd3 tC3 sb2_3
          · exact PySem.W.exm_ref su3 hd3 tC3 sb3_3
          · exact PySem.W.exm_ref su3 hd3 tC3 sb4_3
        · refine ⟨.ref C0, .inl (PySem.W.mg_of X G aC0), fun kk A f h => ?_⟩
          rcases ec kk A f h with ⟨rfl, rfl, rfl⟩ | ⟨rfl, rfl, rfl⟩ | ⟨rfl, rfl, rfl⟩ | ⟨rfl, rfl, rfl⟩ | ⟨rfl, rfl, rfl⟩
          · exact PySem.W.exm_ref su0 hd0 tC0 sb0_0
          · exact PySem.W.exm_ref su0 hd0 tC0 sb1_0
          · exact PySem.W.exm_ref su0 hd0 tC0 sb2_0
          · exact PySem.W.exm_ref su0 hd0 tC0 sb3_0
          · exact PySem.W.exm_ref su0 hd0 tC0 sb4_0
        · refine ⟨.ref C1, .inl (PySem.W.mg_of X G aC1), fun kk A f h => ?_⟩
          rcases ec kk A f h with ⟨rfl, rfl, rfl⟩ | ⟨rfl, rfl, rfl⟩ | ⟨rfl, rfl, rfl⟩ | ⟨rfl, rfl, rfl⟩ | ⟨rfl, rfl, rfl⟩
          · exact PySem.W.exm_ref su1 hd1 tC1 sb0_1
          · exact PySem.W.exm_ref su1 hd1 tC1 sb1_1
          · exact PySem.W.exm_ref su1 hd1 tC1 sb2_1
          · exact PySem.W.exm_ref su1 hd1 tC1 sb3_1
          · exact PySem.W.exm_ref su1 hd1 tC1 sb4_1
      · intro kk A f x b hx h hs
        have hx : x ∈ c0.cl := List.contains_iff_mem.mp hx
        simp only [c0, List.mem_cons, List.not_mem_nil, or_false] at hx
        rcases ec kk A f h with ⟨rfl, rfl, rfl⟩ | ⟨rfl, rfl, rfl⟩ | ⟨rfl, rfl, rfl⟩ | ⟨rfl, rfl, rfl⟩ | ⟨rfl, rfl, rfl⟩
        · rcases hx with rfl | rfl
          · obtain rfl : false = b := Option.some.inj ((by decide +kernel : some false = sub 0 "RuntimeError").trans hs)
            exact ⟨.type "RuntimeError", .inr ⟨PySem.W.mg_none_of X G z_RuntimeError, rfl, by decide⟩, kt0_RuntimeError⟩
          · obtain rfl : false = b := Option.some.inj ((by decide +kernel : some false = sub 0 "StateError").trans hs)
            exact ⟨.ref C5, .inl (PySem.W.mg_of X G aC5), kit_mk hd5 tC5 ne0_5 sb0_5⟩
        · rcases hx with rfl | rfl
          · obtain rfl : false = b := Option.some.inj ((by decide +kernel : some false = sub 1 "RuntimeError").trans hs)
            exact ⟨.type "RuntimeError", .inr ⟨PySem.W.mg_none_of X G z_RuntimeError, rfl, by decide⟩, kt1_RuntimeError⟩
          · obtain rfl : false = b := Option.some.inj ((by decide +kernel : some false = sub 1 "StateError").trans hs)
            exact ⟨.ref C5, .inl (PySem.W.mg_of X G aC5), kit_mk hd5 tC5 ne1_5 sb1_5⟩
        · rcases hx with rfl | rfl
          · obtain rfl : false = b := Option.some.inj ((by decide +kernel : some false = sub 2 "RuntimeError").trans hs)
            exact ⟨.type "RuntimeError", .inr ⟨PySem.W.mg_none_of X G z_RuntimeError, rfl, by decide⟩, kt2_RuntimeError⟩
          · obtain rfl : false = b := Option.some.inj ((by decide +kernel : some false = sub 2 "StateError").trans hs)
            exact ⟨.ref C5, .inl (PySem.W.mg_of X G aC5), kit_mk hd5 tC5 ne2_5 sb2_5⟩
        · rcases hx with rfl | rfl
          · obtain rfl : false = b := Option.some.inj ((by decide +kernel : some false = sub 3 "RuntimeError").trans hs)
            exact ⟨.type "RuntimeError", .inr ⟨PySem.W.mg_none_of X G z_RuntimeError, rfl, by decide⟩, kt3_RuntimeError⟩
          · obtain rfl : false = b := Option.some.inj ((by decide +kernel : some false = sub 3 "StateError").trans hs)
            exact ⟨.ref C5, .inl (PySem.W.mg_of X G aC5), kit_mk hd5 tC5 ne3_5 sb3_5⟩
        · rcases hx with rfl | rfl
          · obtain rfl : true = b := Option.some.inj ((by decide +kernel : some true = sub 4 "RuntimeError").trans hs)
            exact ⟨.type "RuntimeError", .inr ⟨PySem.W.mg_none_of X G z_RuntimeError, rfl, by decide⟩, kt4_RuntimeError⟩
          · obtain rfl : true = b := Option.some.inj ((by decide +kernel : some true = sub 4 "StateError").trans hs)
            exact ⟨.ref C5, .inl (PySem.W.mg_of X G aC5), kit_mk hd5 tC5 ne4_5 sb4_5⟩
      · intro kk A f h
        rcases ec kk A f h with ⟨rfl, rfl, rfl⟩ | ⟨rfl, rfl, rfl⟩ | ⟨rfl, rfl, rfl⟩ | ⟨rfl, rfl, rfl⟩ | ⟨rfl, rfl, rfl⟩
        · refine ⟨xc0, fun n hn => ?_⟩
          simp only [List.mem_cons, List.not_mem_nil, or_false] at hn
          rcases hn with rfl
          · exact no0_value
        · refine ⟨xc1, fun n hn => ?_⟩
          simp only [List.mem_cons, List.not_mem_nil, or_false] at hn
          rcases hn with rfl
          · exact no1_value
        · refine ⟨xc2, fun n hn => ?_⟩
          simp only [List.mem_cons, List.not_mem_nil, or_false] at hn
          rcases hn with rfl
          · exact no2_value
        · refine ⟨xc3, fun n hn => ?_⟩
          simp only [List.mem_cons, List.not_mem_nil, or_false] at hn
          rcases hn with rfl
          · exact no3_value
        · refine ⟨xc4, fun n hn => ?_⟩
          simp only [List.mem_cons, List.not_mem_nil, or_false] at hn
          
    · intro x hx
      have hx : x ∈ c0.hot := List.contains_iff_mem.mp hx
      simp only [c0, List.mem_cons, List.not_mem_nil, or_false] at hx
      rcases hx with rfl
      · have FH := fun_mk (st := sth0) lh0 cch0 kh0
        have BH := FH.binds (ps := ["error"]) fun _ _ _ _ _ _ us hl => match us, hl with | [_], _ => rfl
        refine ⟨_, _, sth0, "error", "PaceError", "ValueError", ⟨PySem.W.mg_of X G ah0, FH, BH, ⟨rfl, rfl, rfl, by decide +kernel, rfl, by decide +kernel, by decide +kernel⟩, by decide +kernel, by decide, by decide, by decide +kernel, by decide +kernel, by decide +kernel, by decide +kernel, by decide, by decide, PySem.W.mg_none_of X G z_isinstance, ⟨.ref C6, .inl (PySem.W.mg_of X G aC6), .type "ValueError", .inr ⟨PySem.W.mg_none_of X G z_ValueError, rfl, by decide⟩, fun kk A f b h hs => ?_⟩⟩⟩
        rcases ec kk A f h with ⟨rfl, rfl, rfl⟩ | ⟨rfl, rfl, rfl⟩ | ⟨rfl, rfl, rfl⟩ | ⟨rfl, rfl, rfl⟩ | ⟨rfl, rfl, rfl⟩
        · obtain rfl : true = b := Option.some.inj ((by decide +kernel : some true = sub 0 "_law_is_value").trans hs)
          exact ⟨_, _, kit_mk hd6 tC6 ne0_6 sb0_6, kt0_ValueError, rfl⟩
        · obtain rfl : true = b := Option.some.inj ((by decide +kernel : some true = sub 1 "_law_is_value").trans hs)
          exact ⟨_, _, kit_mk hd6 tC6 ne1_6 sb1_6, kt1_ValueError, rfl⟩
        · obtain rfl : true = b := Option.some.inj ((by decide +kernel : some true = sub 2 "_law_is_value").trans hs)
          exact ⟨_, _, kit_mk hd6 tC6 ne2_6 sb2_6, kt2_ValueError, rfl⟩
        · obtain rfl : true = b := Option.some.inj ((by decide +kernel : some true = sub 3 "_law_is_value").trans hs)
          exact ⟨_, _, kit_mk hd6 tC6 ne3_6 sb3_6, kt3_ValueError, rfl⟩
        · obtain rfl : false = b := Option.some.inj ((by decide +kernel : some false = sub 4 "_law_is_value").trans hs)
          exact ⟨_, _, kit_mk hd6 tC6 ne4_6 sb4_6, kt4_ValueError, rfl⟩
  exact ⟨PySem.W.fnOf "law" "law" (defArgs st55) (defBody st55) (defScope st55) .none kV55 dc55 pm55 an55 cd55 ct55, fun s v => .of_eq rfl, fun base Y GB => sp0_of (run_ok (land base Y GB) WH DP 55 _ rfl _ _ F55) plain⟩
end K16
set_option linter.all false
set_option autoImplicit false
set_option maxRecDepth 100000
set_option maxHeartbeats 16000000
namespace K16
open Sh PySem
abbrev G : Nat → Option Fn := fnsOf its
mutual
def same : C → C → Bool
  | .tup a, .tup b => sames a b
  | .ref a, .ref b => a == b
  | .frz a, .frz b => sames a b
  | .non, .non => true
  | .bl a, .bl b => a == b
  | .int a, .int b => decide (a = b)
  | .str a, .str b => a == b
  | _, _ => false
def sames : List C → List C → Bool
  | [], [] => true
  | a :: x, b :: y => same a b && sames x y
  | _, _ => false
end
mutual
theorem same_eq : ∀ a b : C, same a b = true → a = b
  | .tup a, .tup b, h => by rw [sames_eq a b h]
  | .ref a, .ref b, h => by rw [beq_iff_eq.mp (h : (a == b) = true)]
  | .frz a, .frz b, h => by rw [sames_eq a b h]
  | .non, .non, _ => rfl
  | .bl a, .bl b, h => by rw [beq_iff_eq.mp (h : (a == b) = true)]
  | .int a, .int b, h => by rw [of_decide_eq_true (h : decide (a = b) = true)]
  | .str a, .str b, h => by rw [beq_iff_eq.mp (h : (a == b) = true)]
  | .rep _, b, h => by cases b <;> cases h
  | .tup _, .ref _, h => by cases h
  | .tup _, .frz _, h => by cases h
  | .tup _, .non, h => by cases h
  | .tup _, .bl _, h => by cases h
  | .tup _, .int _, h => by cases h
  | .tup _, .str _, h => by cases h
  | .tup _, .rep _, h => by cases h
  | .ref _, .tup _, h => by cases h
  | .ref _, .frz _, h => by cases h
  | .ref _, .non, h => by cases h
  | .ref _, .bl _, h => by cases h
  | .ref _, .int _, h => by cases h
  | .ref _, .str _, h => by cases h
  | .ref _, .rep _, h => by cases h
  | .frz _, .tup _, h => by cases h
  | .frz _, .ref _, h => by cases h
  | .frz _, .non, h => by cases h
  | .frz _, .bl _, h => by cases h
  | .frz _, .int _, h => by cases h
  | .frz _, .str _, h => by cases h
  | .frz _, .rep _, h => by cases h
  | .non, .tup _, h => by cases h
  | .non, .ref _, h => by cases h
  | .non, .frz _, h => by cases h
  | .non, .bl _, h => by cases h
  | .non, .int _, h => by cases h
  | .non, .str _, h => by cases h
  | .non, .rep _, h => by cases h
  | .bl _, .tup _, h => by cases h
  | .bl _, .ref _, h => by cases h
  | .bl _, .frz _, h => by cases h
  | .bl _, .non, h => by cases h
  | .bl _, .int _, h => by cases h
  | .bl _, .str _, h => by cases h
  | .bl _, .rep _, h => by cases h
  | .int _, .tup _, h => by cases h
  | .int _, .ref _, h => by cases h
  | .int _, .frz _, h => by cases h
  | .int _, .non, h => by cases h
  | .int _, .bl _, h => by cases h
  | .int _, .str _, h => by cases h
  | .int _, .rep _, h => by cases h
  | .str _, .tup _, h => by cases h
  | .str _, .ref _, h => by cases h
  | .str _, .frz _, h => by cases h
  | .str _, .non, h => by cases h
  | .str _, .bl _, h => by cases h
  | .str _, .int _, h => by cases h
  | .str _, .rep _, h => by cases h
theorem sames_eq : ∀ a b : List C, sames a b = true → a = b
  | [], [], _ => rfl
  | a :: x, b :: y, h => by
    obtain ⟨h1, h2⟩ := Bool.and_eq_true_iff.mp (h : (same a b && sames x y) = true)
    rw [same_eq a b h1, sames_eq x y h2]
  | [], _ :: _, h => by cases h
  | _ :: _, [], h => by cases h
end
def hsame : Hc → Hc → Bool
  | [], [] => true
  | a :: x, b :: y => sames a b && hsame x y
  | _, _ => false
theorem hsame_eq : ∀ a b : Hc, hsame a b = true → a = b
  | [], [], _ => rfl
  | a :: x, b :: y, h => by
    obtain ⟨h1, h2⟩ := Bool.and_eq_true_iff.mp (h : (sames a b && hsame x y) = true)
    rw [sames_eq a b h1, hsame_eq x y h2]
  | [], _ :: _, h => by cases h
  | _ :: _, [], h => by cases h
def polys : List (List Int × Nat) := [([1, 0, 1], 0), ([7], 0), ([0, 0, 1], 1), ([1, -3, 1], 2), ([-2, 0, 1], 2), ([0, -1, 0, 1], 3), ([-3], 0)]
def rowsOk (P : List Int) (m : Nat) : Bool := match run G sub WH 7 23 [tZ P] [] with
  | .ok c hs => C.under hs.length c && hs.all (C.unders hs.length) && (match run G sub WH 7 27 [c] hs with
    | .ok (.int i) hs2 => decide (i = m) && hsame hs hs2
    | _ => false)
  | _ => false
def isR (r : R C) (i : Int) : Bool := match r with
  | .ok (.int j) [] => decide (j = i)
  | _ => false
def okD (d : PyData) : Bool := d.showable && SeqAt.shaped d && shortD d && !d.hasDict
def isA (r : R C) : Bool := match r with
  | .ok (.int j) [] => okD (.int j)
  | _ => false
theorem isR_eq {r : R C} {i : Int} (h : isR r i = true) : r = .ok (.int i) [] := by
  unfold isR at h
  split at h
  · rw [of_decide_eq_true h]
  · cases h
theorem isA_eq {r : R C} (h : isA r = true) : ∃ i, r = .ok (.int i) [] ∧ okD (.int i) = true := by
  unfold isA at h
  split at h
  · exact ⟨_, rfl, h⟩
  · cases h
theorem rows_ok : polys.all (fun x => rowsOk x.1 x.2) = true := by decide +kernel
theorem real_ok : polys.all (fun x => isR (run G sub WH 8 38 [tZ x.1] []) x.2) = true := by decide +kernel
theorem floor0_ok : polys.all (fun x => (List.range x.2).all fun (i : Nat) => isA (run G sub WH 8 41 [tZ x.1, .int (i : Int), .int 0] [])) = true := by decide +kernel
theorem nr_ok : its.all (fun it => it.body.nr) = true := by decide +kernel
theorem G_nr : ∀ f fn, G f = some fn → fn.body.nr = true := fun f fn h => by
  unfold G fnsOf at h
  cases e : its[f]? with
  | none => rw [e] at h; cases h
  | some it =>
    rw [e] at h
    cases h
    exact List.all_eq_true.mp nr_ok it (List.mem_of_getElem? e)
end K16
set_option linter.all false
set_option autoImplicit false
set_option maxRecDepth 100000
set_option maxHeartbeats 16000000
namespace K16
open Sh PySem
theorem floor400_2 : isA (run G sub WH 8 41 [tZ [0, 0, 1], .int 0, .int 400] []) = true := by decide +kernel
theorem floor400_30 : isA (run G sub WH 8 41 [tZ [1, -3, 1], .int 0, .int 400] []) = true := by decide +kernel
theorem floor400_31 : isA (run G sub WH 8 41 [tZ [1, -3, 1], .int 1, .int 400] []) = true := by decide +kernel
theorem floor400_40 : isA (run G sub WH 8 41 [tZ [-2, 0, 1], .int 0, .int 400] []) = true := by decide +kernel
theorem floor400_41 : isA (run G sub WH 8 41 [tZ [-2, 0, 1], .int 1, .int 400] []) = true := by decide +kernel
theorem floor400_50 : isA (run G sub WH 8 41 [tZ [0, -1, 0, 1], .int 0, .int 400] []) = true := by decide +kernel
theorem floor400_51 : isA (run G sub WH 8 41 [tZ [0, -1, 0, 1], .int 1, .int 400] []) = true := by decide +kernel
theorem floor400_52 : isA (run G sub WH 8 41 [tZ [0, -1, 0, 1], .int 2, .int 400] []) = true := by decide +kernel
end K16
set_option linter.all false
set_option autoImplicit false
set_option maxRecDepth 100000
set_option maxHeartbeats 16000000
namespace K16
open Sh PySem
def F_is_count (j_is_integer : Nat) : Fn := ⟨1, 1, (.cons (.ret (.andv (.call j_is_integer (.cons (.var 0) .nil)) (.cmp .ge (.var 0) (.con (.int 0))))) .nil)⟩
def F_check_many (j_is_integer x_InvalidMany : Nat) : Fn := ⟨3, 3, (.cons (.ifs (.or (.not (.tr (.call j_is_integer (.cons (.var 0) .nil)))) (.not (.chn .le .le (.var 1) (.var 0) (.var 2)))) (.cons (.raise x_InvalidMany (.cons (.var 0) .nil)) .nil) .nil) .nil)⟩
def F_is_ratio (j_is_integer : Nat) : Fn := ⟨3, 1, (.cons (.ifs (.or (.not (.tr (.isi (.var 0) .tuple))) (.cmp .ne (.bi .len (.cons (.var 0) .nil)) (.con (.int 2)))) (.cons (.ret (.con (.bl false))) .nil) .nil) (.cons (.asg (.tup (.cons (.v 1) (.cons (.v 2) .nil))) (.var 0)) (.cons (.ifs (.or (.not (.tr (.call j_is_integer (.cons (.var 1) .nil)))) (.not (.tr (.call j_is_integer (.cons (.var 2) .nil))))) (.cons (.ret (.con (.bl false))) .nil) .nil) (.cons (.ret (.andv (.cmp .ge (.var 2) (.con (.int 1))) (.cmp .eq (.bi .gcd (.cons (.var 1) (.cons (.var 2) .nil))) (.con (.int 1))))) .nil))))⟩
def F_check_ratio (j_is_ratio x_InvalidRatio : Nat) : Fn := ⟨1, 1, (.cons (.ifs (.not (.tr (.call j_is_ratio (.cons (.var 0) .nil)))) (.cons (.raise x_InvalidRatio (.cons (.var 0) .nil)) .nil) .nil) .nil)⟩
def P_changes_1 : Pt := (.v 3)
def L_changes_2 (j_sign_of : Nat) : Ss := (.cons (.asg (.v 4) (.call j_sign_of (.cons (.var 3) .nil))) (.cons (.ifs (.and (.tr (.var 4)) (.cmp .eq (.var 4) (.neg (.var 2)))) (.cons (.aug 1 .add (.con (.int 1))) .nil) .nil) (.cons (.ifs (.tr (.var 4)) (.cons (.asg (.v 2) (.var 4)) .nil) .nil) .nil)))
def F_changes (j_sign_of : Nat) : Fn := ⟨5, 1, (.cons (.asg (.v 1) (.con (.int 0))) (.cons (.asg (.v 2) (.con (.int 0))) (.cons (.for_ P_changes_1 (.seq (.var 0)) (L_changes_2 j_sign_of)) (.cons (.ret (.var 1)) .nil))))⟩
def F_sign_changes (j_changes j_check_polynomial : Nat) : Fn := ⟨1, 1, (.cons (.expr (.call j_check_polynomial (.cons (.var 0) .nil))) (.cons (.ret (.call j_changes (.cons (.var 0) .nil))) .nil))⟩
def F_check_not_nought (x_IsNought : Nat) : Fn := ⟨1, 1, (.cons (.ifs (.not (.tr (.var 0))) (.cons (.raise x_IsNought .nil) .nil) .nil) .nil)⟩
def F_real_count (j_roots_in_all j_sturm_row j_check_not_nought j_check_polynomial : Nat) : Fn := ⟨1, 1, (.cons (.expr (.call j_check_polynomial (.cons (.var 0) .nil))) (.cons (.expr (.call j_check_not_nought (.cons (.var 0) .nil))) (.cons (.ret (.call j_roots_in_all (.cons (.call j_sturm_row (.cons (.var 0) .nil)) .nil))) .nil)))⟩
def F_count_between (j_roots_between j_sturm_row j_ratio_compared j_check_not_nought j_check_ratio j_check_polynomial : Nat) : Fn := ⟨3, 3, (.cons (.expr (.call j_check_polynomial (.cons (.var 0) .nil))) (.cons (.expr (.call j_check_ratio (.cons (.var 1) .nil))) (.cons (.expr (.call j_check_ratio (.cons (.var 2) .nil))) (.cons (.expr (.call j_check_not_nought (.cons (.var 0) .nil))) (.cons (.ifs (.cmp .ne (.call j_ratio_compared (.cons (.var 1) (.cons (.var 2) .nil))) (.neg (.con (.int 1)))) (.cons (.ret (.con (.int 0))) .nil) .nil) (.cons (.ret (.call j_roots_between (.cons (.call j_sturm_row (.cons (.var 0) .nil)) (.cons (.var 1) (.cons (.var 2) .nil))))) .nil))))))⟩
def F_count_above (j_roots_above j_sturm_row j_check_not_nought j_check_ratio j_check_polynomial : Nat) : Fn := ⟨2, 2, (.cons (.expr (.call j_check_polynomial (.cons (.var 0) .nil))) (.cons (.expr (.call j_check_ratio (.cons (.var 1) .nil))) (.cons (.expr (.call j_check_not_nought (.cons (.var 0) .nil))) (.cons (.ret (.call j_roots_above (.cons (.call j_sturm_row (.cons (.var 0) .nil)) (.cons (.idx (.var 1) (.con (.int 0))) (.cons (.idx (.var 1) (.con (.int 1))) .nil))))) .nil))))⟩
def F_root_floor (j_floor_of_root j_check_many j_roots_in_all j_is_count x_InvalidPosition j_sturm_row j_check_not_nought j_check_polynomial : Nat) : Fn := ⟨4, 3, (.cons (.expr (.call j_check_polynomial (.cons (.var 0) .nil))) (.cons (.expr (.call j_check_not_nought (.cons (.var 0) .nil))) (.cons (.asg (.v 3) (.call j_sturm_row (.cons (.var 0) .nil))) (.cons (.ifs (.or (.not (.tr (.call j_is_count (.cons (.var 1) .nil)))) (.cmp .ge (.var 1) (.call j_roots_in_all (.cons (.var 3) .nil)))) (.cons (.raise x_InvalidPosition (.cons (.var 1) .nil)) .nil) .nil) (.cons (.expr (.call j_check_many (.cons (.var 2) (.cons (.con (.int 0)) (.cons (.glob "MOST_PLACES" (.int 400)) .nil))))) (.cons (.ret (.call j_floor_of_root (.cons (.var 3) (.cons (.var 1) (.cons (.var 2) .nil))))) .nil))))))⟩
def F_law_pot : Fn := ⟨3, 2, (.cons (.asg (.v 2) (.ite (.cmp .lt (.var 1) (.bi .len (.cons (.var 0) .nil))) (.bi .abs (.cons (.idx (.var 0) (.var 1)) .nil)) (.bin .add (.bin .mul (.con (.int 919)) (.var 1)) (.con (.int 587))))) (.cons (.ret (.lst (.cons (.bi .max2 (.cons (.con (.int 0)) (.cons (.bin .sub (.var 2) (.bin .pow (.con (.int 10)) (.con (.int 18)))) .nil))) (.cons (.bin .add (.bin .mod (.bi .int (.cons (.bin .add (.bin .add (.bin .mul (.bin .mod (.bi .int (.cons (.var 2) .nil)) (.con (.int 2147483549))) (.con (.int 41201))) (.bin .mul (.con (.int 4021)) (.var 1))) (.con (.int 661))) .nil)) (.con (.int 2147483563))) (.con (.int 1))) .nil)))) .nil))⟩
def F_law_draw : Fn := ⟨3, 2, (.cons (.ifs (.cmp .gt (.idx (.var 0) (.con (.int 0))) (.con (.int 0))) (.cons (.asg (.tup (.cons (.sub (.var 0) (.con (.int 0))) (.cons (.v 2) .nil))) (.bi .divmod (.cons (.idx (.var 0) (.con (.int 0))) (.cons (.var 1) .nil)))) (.cons (.ret (.var 2)) .nil)) .nil) (.cons (.asg (.sub (.var 0) (.con (.int 1))) (.bin .mod (.bi .int (.cons (.bin .add (.bin .mul (.idx (.var 0) (.con (.int 1))) (.con (.int 40014))) (.con (.int 1109))) .nil)) (.con (.int 2147483563)))) (.cons (.ret (.bin .mod (.bi .int (.cons (.bin .div (.bin .mod (.bi .int (.cons (.bin .mul (.idx (.var 0) (.con (.int 1))) (.idx (.var 0) (.con (.int 1)))) .nil)) (.con (.int 2147483587))) (.con (.int 21))) .nil)) (.var 1))) .nil)))⟩
def F_law_pick (j_law_draw : Nat) : Fn := ⟨2, 2, (.cons (.ret (.idx (.var 1) (.call j_law_draw (.cons (.var 0) (.cons (.bi .len (.cons (.var 1) .nil)) .nil))))) .nil)⟩
def F_law_told (j_root_floor j_count_above j_count_between j_real_count j_sign_changes : Nat) : Fn := ⟨2, 2, (.cons (.ifs (.cmp .eq (.var 0) (.con (.str "signs"))) (.cons (.ret (.call j_sign_changes (.cons (.idx (.var 1) (.con (.int 0))) .nil))) .nil) .nil) (.cons (.ifs (.cmp .eq (.var 0) (.con (.str "real"))) (.cons (.ret (.call j_real_count (.cons (.idx (.var 1) (.con (.int 0))) .nil))) .nil) .nil) (.cons (.ifs (.cmp .eq (.var 0) (.con (.str "between"))) (.cons (.ret (.call j_count_between (.cons (.idx (.var 1) (.con (.int 0))) (.cons (.idx (.var 1) (.con (.int 1))) (.cons (.idx (.var 1) (.con (.int 2))) .nil))))) .nil) .nil) (.cons (.ifs (.cmp .eq (.var 0) (.con (.str "above"))) (.cons (.ret (.call j_count_above (.cons (.idx (.var 1) (.con (.int 0))) (.cons (.idx (.var 1) (.con (.int 1))) .nil)))) .nil) .nil) (.cons (.ret (.call j_root_floor (.cons (.idx (.var 1) (.con (.int 0))) (.cons (.idx (.var 1) (.con (.int 1))) (.cons (.idx (.var 1) (.con (.int 2))) .nil))))) .nil)))))⟩
def F_law_raised (j_law_told : Nat) : Fn := ⟨4, 2, (.cons (.try_ (.cons (.asg (.v 2) (.call j_law_told (.cons (.var 0) (.cons (.var 1) .nil)))) .nil) (.cons [1] 3 (.cons (.ret (.lst (.cons (.con (.str "InvalidPolynomial")) (.cons (.bi .repr (.cons (.excf 0) .nil)) (.cons (.excis "_law_is_value") .nil))))) .nil) (.cons [0] 3 (.cons (.ret (.lst (.cons (.con (.str "InvalidRatio")) (.cons (.bi .repr (.cons (.excf 0) .nil)) (.cons (.excis "_law_is_value") .nil))))) .nil) (.cons [3] 3 (.cons (.ret (.lst (.cons (.con (.str "InvalidPosition")) (.cons (.bi .repr (.cons (.excf 0) .nil)) (.cons (.excis "_law_is_value") .nil))))) .nil) (.cons [2] 3 (.cons (.ret (.lst (.cons (.con (.str "InvalidMany")) (.cons (.bi .repr (.cons (.excf 0) .nil)) (.cons (.excis "_law_is_value") .nil))))) .nil) (.cons [4] 3 (.cons (.ret (.lst (.cons (.con (.str "IsNought")) (.cons (.con (.str "")) (.cons (.andv (.excis "StateError") (.excis "RuntimeError")) .nil))))) .nil) .nil)))))) (.cons (.ret (.lst (.cons (.con (.str "told")) (.cons (.bi .repr (.cons (.var 2) .nil)) (.cons (.con (.bl true)) .nil))))) .nil))⟩
def F_law_due : Fn := ⟨2, 2, (.cons (.ret (.lst (.cons (.var 0) (.cons (.bi .repr (.cons (.var 1) .nil)) (.cons (.con (.bl true)) .nil))))) .nil)⟩
def F_law_wrong_polynomials : Fn := ⟨0, 0, (.cons (.ret (.lst (.cons (.lst (.cons (.con (.int 1)) (.cons (.con (.int 2)) .nil))) (.cons (.tup (.cons (.con (.int 1)) (.cons (.con (.int 0)) .nil))) (.cons (.tup (.cons (.con (.int 0)) .nil)) (.cons (.tup (.cons (.con (.bl true)) (.cons (.con (.int 1)) .nil))) (.cons (.tup (.cons (.con (.str "1")) (.cons (.con (.int 1)) .nil))) (.cons (.tup (.cons (.con (.int 1)) (.cons (.con .non) .nil))) (.cons (.con .non) (.cons (.con (.int 5)) (.cons (.con (.str "1 1")) (.cons (.bin .mul (.tup (.cons (.con (.int 1)) .nil)) (.con (.int 14))) (.cons (.tup (.cons (.bin .add (.bin .pow (.con (.int 10)) (.con (.int 6))) (.con (.int 1))) (.cons (.con (.int 1)) .nil))) (.cons (.tup (.cons (.con (.int 1)) (.cons (.bin .sub (.neg (.bin .pow (.con (.int 10)) (.con (.int 6)))) (.con (.int 1))) .nil))) (.cons (.tup (.cons (.tup (.cons (.con (.int 1)) (.cons (.con (.int 2)) .nil))) (.cons (.con (.int 1)) .nil))) (.cons (.tup (.cons (.con (.int 1)) (.cons (.con (.bl false)) .nil))) .nil)))))))))))))))) .nil)⟩
def F_law_wrong_ratios : Fn := ⟨0, 0, (.cons (.ret (.lst (.cons (.tup (.cons (.con (.int 2)) (.cons (.con (.int 4)) .nil))) (.cons (.tup (.cons (.con (.int 1)) (.cons (.con (.int 0)) .nil))) (.cons (.tup (.cons (.con (.int 1)) (.cons (.neg (.con (.int 1))) .nil))) (.cons (.tup (.cons (.con (.int 0)) (.cons (.con (.int 2)) .nil))) (.cons (.lst (.cons (.con (.int 1)) (.cons (.con (.int 2)) .nil))) (.cons (.tup (.cons (.con (.int 1)) .nil)) (.cons (.tup (.cons (.con (.int 1)) (.cons (.con (.int 2)) (.cons (.con (.int 3)) .nil)))) (.cons (.con (.int 1)) (.cons (.con .non) (.cons (.tup (.cons (.con (.bl true)) (.cons (.con (.int 1)) .nil))) (.cons (.tup (.cons (.con (.int 1)) (.cons (.con (.bl true)) .nil))) (.cons (.tup (.cons (.con (.str "1")) (.cons (.con (.int 2)) .nil))) (.cons (.tup (.cons (.neg (.con (.int 3))) (.cons (.neg (.con (.int 2))) .nil))) .nil))))))))))))))) .nil)⟩
def F_law_polynomials_right (j_law_raised j_law_due j_law_pick j_law_wrong_ratios j_law_wrong_polynomials : Nat) : Fn := ⟨5, 1, (.cons (.asg (.v 1) (.call j_law_pick (.cons (.var 0) (.cons (.call j_law_wrong_polynomials .nil) .nil)))) (.cons (.asg (.v 2) (.call j_law_pick (.cons (.var 0) (.cons (.call j_law_wrong_ratios .nil) .nil)))) (.cons (.asg (.v 3) (.call j_law_due (.cons (.con (.str "InvalidPolynomial")) (.cons (.var 1) .nil)))) (.cons (.asg (.v 4) (.lst (.cons (.call j_law_raised (.cons (.con (.str "signs")) (.cons (.lst (.cons (.var 1) .nil)) .nil))) (.cons (.call j_law_raised (.cons (.con (.str "real")) (.cons (.lst (.cons (.var 1) .nil)) .nil))) (.cons (.call j_law_raised (.cons (.con (.str "between")) (.cons (.lst (.cons (.var 1) (.cons (.var 2) (.cons (.var 2) .nil)))) .nil))) (.cons (.call j_law_raised (.cons (.con (.str "above")) (.cons (.lst (.cons (.var 1) (.cons (.var 2) .nil))) .nil))) (.cons (.call j_law_raised (.cons (.con (.str "floor")) (.cons (.lst (.cons (.var 1) (.cons (.con (.bl true)) (.cons (.neg (.con (.int 1))) .nil)))) .nil))) .nil))))))) (.cons (.ret (.cmp .eq (.var 4) (.bin .mul (.lst (.cons (.var 3) .nil)) (.con (.int 5))))) .nil)))))⟩
def P_law_ratios_right_1 : Pt := (.v 4)
def L_law_ratios_right_2 (j_law_raised j_law_due : Nat) : Ss := (.cons (.asg (.v 5) (.lst (.cons (.call j_law_raised (.cons (.con (.str "between")) (.cons (.lst (.cons (.var 4) (.cons (.var 2) (.cons (.var 3) .nil)))) .nil))) (.cons (.call j_law_raised (.cons (.con (.str "between")) (.cons (.lst (.cons (.var 4) (.cons (.tup (.cons (.con (.int 1)) (.cons (.con (.int 2)) .nil))) (.cons (.var 3) .nil)))) .nil))) (.cons (.call j_law_raised (.cons (.con (.str "above")) (.cons (.lst (.cons (.var 4) (.cons (.var 3) .nil))) .nil))) .nil))))) (.cons (.asg (.v 6) (.bin .add (.lst (.cons (.call j_law_due (.cons (.con (.str "InvalidRatio")) (.cons (.var 2) .nil))) .nil)) (.bin .mul (.lst (.cons (.call j_law_due (.cons (.con (.str "InvalidRatio")) (.cons (.var 3) .nil))) .nil)) (.con (.int 2))))) (.cons (.ifs (.cmp .ne (.var 5) (.var 6)) (.cons (.ret (.con (.bl false))) .nil) .nil) .nil)))
def F_law_ratios_right (j_law_due j_law_raised j_law_pick j_law_wrong_ratios : Nat) : Fn := ⟨7, 2, (.cons (.par 2 3 (.call j_law_pick (.cons (.var 0) (.cons (.call j_law_wrong_ratios .nil) .nil))) (.call j_law_pick (.cons (.var 0) (.cons (.call j_law_wrong_ratios .nil) .nil)))) (.cons (.for_ P_law_ratios_right_1 (.seq (.tup (.cons (.var 1) (.cons (.tup .nil) .nil)))) (L_law_ratios_right_2 j_law_raised j_law_due)) (.cons (.ret (.con (.bl true))) .nil)))⟩
def F_law_nought_right (j_law_raised j_law_due j_law_pick : Nat) : Fn := ⟨3, 1, (.cons (.asg (.v 1) (.call j_law_pick (.cons (.var 0) (.cons (.lst (.cons (.con (.bl true)) (.cons (.neg (.con (.int 1))) (.cons (.con .non) (.cons (.con (.str "0")) (.cons (.con (.int 0)) (.cons (.tup (.cons (.con (.int 0)) .nil)) .nil))))))) .nil)))) (.cons (.asg (.v 2) (.lst (.cons (.call j_law_raised (.cons (.con (.str "real")) (.cons (.lst (.cons (.tup .nil) .nil)) .nil))) (.cons (.call j_law_raised (.cons (.con (.str "between")) (.cons (.lst (.cons (.tup .nil) (.cons (.tup (.cons (.con (.int 1)) (.cons (.con (.int 1)) .nil))) (.cons (.tup (.cons (.con (.int 0)) (.cons (.con (.int 1)) .nil))) .nil)))) .nil))) (.cons (.call j_law_raised (.cons (.con (.str "above")) (.cons (.lst (.cons (.tup .nil) (.cons (.tup (.cons (.con (.int 0)) (.cons (.con (.int 1)) .nil))) .nil))) .nil))) (.cons (.call j_law_raised (.cons (.con (.str "floor")) (.cons (.lst (.cons (.tup .nil) (.cons (.var 1) (.cons (.var 1) .nil)))) .nil))) .nil)))))) (.cons (.ret (.andv (.cmp .eq (.var 2) (.bin .mul (.lst (.cons (.lst (.cons (.con (.str "IsNought")) (.cons (.con (.str "")) (.cons (.con (.bl true)) .nil)))) .nil)) (.con (.int 4)))) (.cmp .eq (.call j_law_raised (.cons (.con (.str "signs")) (.cons (.lst (.cons (.tup .nil) .nil)) .nil))) (.call j_law_due (.cons (.con (.str "told")) (.cons (.con (.int 0)) .nil)))))) .nil)))⟩
def F_law_some (j_law_pick : Nat) : Fn := ⟨1, 1, (.cons (.ret (.call j_law_pick (.cons (.var 0) (.cons (.lst (.cons (.tup (.cons (.tup (.cons (.con (.int 1)) (.cons (.con (.int 0)) (.cons (.con (.int 1)) .nil)))) (.cons (.con (.int 0)) .nil))) (.cons (.tup (.cons (.tup (.cons (.con (.int 7)) .nil)) (.cons (.con (.int 0)) .nil))) (.cons (.tup (.cons (.tup (.cons (.con (.int 0)) (.cons (.con (.int 0)) (.cons (.con (.int 1)) .nil)))) (.cons (.con (.int 1)) .nil))) (.cons (.tup (.cons (.tup (.cons (.con (.int 1)) (.cons (.neg (.con (.int 3))) (.cons (.con (.int 1)) .nil)))) (.cons (.con (.int 2)) .nil))) (.cons (.tup (.cons (.tup (.cons (.neg (.con (.int 2))) (.cons (.con (.int 0)) (.cons (.con (.int 1)) .nil)))) (.cons (.con (.int 2)) .nil))) (.cons (.tup (.cons (.tup (.cons (.con (.int 0)) (.cons (.neg (.con (.int 1))) (.cons (.con (.int 0)) (.cons (.con (.int 1)) .nil))))) (.cons (.con (.int 3)) .nil))) (.cons (.tup (.cons (.tup (.cons (.neg (.con (.int 3))) .nil)) (.cons (.con (.int 0)) .nil))) .nil)))))))) .nil)))) .nil)⟩
def P_law_positions_right_1 : Pt := (.v 3)
def L_law_positions_right_2 (j_law_raised j_law_due : Nat) : Ss := (.cons (.asg (.v 4) (.call j_law_raised (.cons (.con (.str "floor")) (.cons (.lst (.cons (.var 1) (.cons (.var 5) (.cons (.var 3) .nil)))) .nil)))) (.cons (.ifs (.cmp .ne (.var 4) (.call j_law_due (.cons (.con (.str "InvalidMany")) (.cons (.var 3) .nil)))) (.cons (.ret (.con (.bl false))) .nil) .nil) .nil))
def P_law_positions_right_3 : Pt := (.v 3)
def L_law_positions_right_4 (j_law_raised j_law_pick j_law_due : Nat) : Ss := (.cons (.asg (.v 4) (.call j_law_raised (.cons (.con (.str "floor")) (.cons (.lst (.cons (.var 1) (.cons (.var 3) (.cons (.call j_law_pick (.cons (.var 0) (.cons (.lst (.cons (.neg (.con (.int 1))) (.cons (.con (.int 401)) (.cons (.con (.int 3)) (.cons (.con .non) .nil))))) .nil))) .nil)))) .nil)))) (.cons (.ifs (.cmp .ne (.var 4) (.call j_law_due (.cons (.con (.str "InvalidPosition")) (.cons (.var 3) .nil)))) (.cons (.ret (.con (.bl false))) .nil) .nil) .nil))
def F_law_positions_right (j_law_raised j_law_due j_law_draw j_law_pick : Nat) : Fn := ⟨6, 3, (.cons (.for_ P_law_positions_right_3 (.seq (.tup (.cons (.con (.bl true)) (.cons (.neg (.con (.int 1))) (.cons (.con .non) (.cons (.con (.str "0")) (.cons (.tup (.cons (.con (.int 0)) .nil)) (.cons (.var 2) (.cons (.bin .add (.var 2) (.con (.int 3))) .nil))))))))) (L_law_positions_right_4 j_law_raised j_law_pick j_law_due)) (.cons (.ifs (.cmp .eq (.var 2) (.con (.int 0))) (.cons (.ret (.con (.bl true))) .nil) .nil) (.cons (.asg (.v 5) (.call j_law_draw (.cons (.var 0) (.cons (.var 2) .nil)))) (.cons (.for_ P_law_positions_right_1 (.seq (.tup (.cons (.con (.bl true)) (.cons (.neg (.con (.int 1))) (.cons (.con (.int 401)) (.cons (.con .non) (.cons (.con (.str "2")) (.cons (.lst (.cons (.con (.int 1)) .nil)) (.cons (.bin .pow (.con (.int 10)) (.con (.int 30))) .nil))))))))) (L_law_positions_right_2 j_law_raised j_law_due)) (.cons (.ret (.andv (.cmp .eq (.idx (.call j_law_raised (.cons (.con (.str "floor")) (.cons (.lst (.cons (.var 1) (.cons (.var 5) (.cons (.con (.int 400)) .nil)))) .nil))) (.con (.int 0))) (.con (.str "told"))) (.cmp .eq (.idx (.call j_law_raised (.cons (.con (.str "floor")) (.cons (.lst (.cons (.var 1) (.cons (.var 5) (.cons (.con (.int 0)) .nil)))) .nil))) (.con (.int 0))) (.con (.str "told"))))) .nil)))))⟩
def F_law (j_law_positions_right j_law_nought_right j_law_ratios_right j_law_polynomials_right j_law_raised j_law_due j_law_some j_law_pot : Nat) : Fn := ⟨4, 1, (.cons (.asg (.v 1) (.call j_law_pot (.cons (.var 0) (.cons (.con (.int 0)) .nil)))) (.cons (.asg (.tup (.cons (.v 2) (.cons (.v 3) .nil))) (.call j_law_some (.cons (.var 1) .nil))) (.cons (.ifs (.cmp .ne (.call j_law_raised (.cons (.con (.str "real")) (.cons (.lst (.cons (.var 2) .nil)) .nil))) (.call j_law_due (.cons (.con (.str "told")) (.cons (.var 3) .nil)))) (.cons (.ret (.con (.bl false))) .nil) .nil) (.cons (.ifs (.or (.not (.tr (.call j_law_polynomials_right (.cons (.var 1) .nil)))) (.not (.tr (.call j_law_ratios_right (.cons (.var 1) (.cons (.var 2) .nil)))))) (.cons (.ret (.con (.bl false))) .nil) .nil) (.cons (.ret (.andv (.call j_law_nought_right (.cons (.var 1) .nil)) (.call j_law_positions_right (.cons (.var 1) (.cons (.var 2) (.cons (.var 3) .nil)))))) .nil)))))⟩

abbrev rn (d f : Nat) (xs : List C) (h : Hc) : R C := run G sub WH d f xs h
theorem hWH : 1000 < WH := by unfold WH; decide
theorem f0 : G 0 = some F_is_integer := rfl
theorem f1 : G 1 = some (F_is_count 0) := rfl
theorem f2 : G 2 = some (F_check_many 0 2) := rfl
theorem f16 : G 16 = some (F_is_ratio 0) := rfl
theorem f17 : G 17 = some (F_check_ratio 16 0) := rfl
theorem f19 : G 19 = some (F_is_polynomial 0) := rfl
theorem f20 : G 20 = some (F_check_polynomial 19 1) := rfl
theorem f22 : G 22 = some (F_sign_changes 21 20) := rfl
theorem f37 : G 37 = some (F_check_not_nought 4) := rfl
theorem f38 : G 38 = some (F_real_count 27 23 37 20) := rfl
theorem f39 : G 39 = some (F_count_between 31 23 18 37 17 20) := rfl
theorem f40 : G 40 = some (F_count_above 28 23 37 17 20) := rfl
theorem f41 : G 41 = some (F_root_floor 36 2 27 1 3 23 37 20) := rfl
theorem f42 : G 42 = some F_law_pot := rfl
theorem f43 : G 43 = some F_law_draw := rfl
theorem f44 : G 44 = some (F_law_pick 43) := rfl
theorem f45 : G 45 = some (F_law_told 41 40 39 38 22) := rfl
theorem f46 : G 46 = some (F_law_raised 45) := rfl
theorem f47 : G 47 = some F_law_due := rfl
theorem f48 : G 48 = some F_law_wrong_polynomials := rfl
theorem f49 : G 49 = some F_law_wrong_ratios := rfl
theorem f50 : G 50 = some (F_law_polynomials_right 46 47 44 49 48) := rfl
theorem f51 : G 51 = some (F_law_ratios_right 47 46 44 49) := rfl
theorem f52 : G 52 = some (F_law_nought_right 46 47 44) := rfl
theorem f53 : G 53 = some (F_law_some 44) := rfl
theorem f54 : G 54 = some (F_law_positions_right 46 47 43 44) := rfl
theorem f55 : G 55 = some (F_law 54 52 51 50 46 47 53 42) := rfl
variable {h : Hc}
def isCnt : C → Bool
  | .int i => decide (0 ≤ i)
  | _ => false
def isMn (a b : Int) : C → Bool
  | .int i => decide (a ≤ i) && decide (i ≤ b)
  | _ => false
def isRat : C → Bool
  | .tup [.int a, .int b] => decide (1 ≤ b) && (((Nat.gcd a.natAbs b.natAbs : Nat) : Int) == 1)
  | _ => false
theorem count_run (d : Nat) (x : C) : rn (d + 2) 1 [x] h = .ok (.bl (isCnt x)) h := by
  have ri := fun (h : Hc) (x : C) => is_integer_run f0 (sub := sub) (w := WH) d h x
  rw [rn, un f1 _ _ _ rfl (of_decide_eq_true rfl)]
  cases x <;> simp [F_is_count, Ss.ev, S.ev, Hs.ev, E.ev, Es.ev, T.ev, Pt.put, Pts.put, Pts.len, Es.len, Oe.ev, It.ev, bind_ok, bind_err, bind_bad, th_ok, th_err, th_bad, nxth, retth, errth, badth, noerr_ok, fin_nx, fin_ret, fin_err, tidy_same, tidyX_same, List.getElem?_cons_zero, List.getElem?_cons_succ, List.set_cons_zero, List.set_cons_succ, ri, isI, isCnt, ge_i]
theorem many_run (d : Nat) (x : C) (a b : Int) : rn (d + 2) 2 [x, .int a, .int b] h = if isMn a b x then .ok .non h else .err 2 [x] h := by
  have ri := fun (h : Hc) (x : C) => is_integer_run f0 (sub := sub) (w := WH) d h x
  rw [rn, un f2 _ _ _ rfl (of_decide_eq_true rfl)]
  cases x <;> simp [F_check_many, Ss.ev, S.ev, Hs.ev, E.ev, Es.ev, T.ev, Pt.put, Pts.put, Pts.len, Es.len, Oe.ev, It.ev, bind_ok, bind_err, bind_bad, th_ok, th_err, th_bad, nxth, retth, errth, badth, noerr_ok, fin_nx, fin_ret, fin_err, tidy_same, tidyX_same, List.getElem?_cons_zero, List.getElem?_cons_succ, List.set_cons_zero, List.set_cons_succ, ri, isI, isMn, le_i, truth_b]
  rename_i i
  by_cases h1 : a ≤ i <;> by_cases h2 : i ≤ b <;> simp [h1, h2, Ss.ev, S.ev, Hs.ev, E.ev, Es.ev, T.ev, Pt.put, Pts.put, Pts.len, Es.len, Oe.ev, It.ev, bind_ok, bind_err, bind_bad, th_ok, th_err, th_bad, nxth, retth, errth, badth, noerr_ok, fin_nx, fin_ret, fin_err, tidy_same, tidyX_same, List.getElem?_cons_zero, List.getElem?_cons_succ, List.set_cons_zero, List.set_cons_succ]
theorem rat_run (d : Nat) (x : C) : rn (d + 2) 16 [x] h = .ok (.bl (isRat x)) h := by
  cases x with
  | tup xs =>
    match xs with
    | [a, b] =>
      cases a with
      | int a =>
        cases b with
        | int b => exact ratio_ok f16 f0 d a b
        | _ =>
          have ri := fun (h : Hc) (x : C) => is_integer_run f0 (sub := sub) (w := WH) d h x
          rw [rn, un f16 _ _ _ rfl (of_decide_eq_true rfl)]
          simp [F_is_ratio, Ss.ev, S.ev, Hs.ev, E.ev, Es.ev, T.ev, Pt.put, Pts.put, Pts.len, Es.len, Oe.ev, It.ev, bind_ok, bind_err, bind_bad, th_ok, th_err, th_bad, nxth, retth, errth, badth, noerr_ok, fin_nx, fin_ret, fin_err, tidy_same, tidyX_same, List.getElem?_cons_zero, List.getElem?_cons_succ, List.set_cons_zero, List.set_cons_succ, ri, isI, isRat, isiC, isiT, tyC, truth_b, len_tup', ne_int, Pts.put, Pts.len]
      | _ => exact ratio_ni f16 f0 d _ b rfl
    | [] =>
      rw [rn, un f16 _ _ _ rfl (of_decide_eq_true rfl)]
      simp [F_is_ratio, Ss.ev, S.ev, Hs.ev, E.ev, Es.ev, T.ev, Pt.put, Pts.put, Pts.len, Es.len, Oe.ev, It.ev, bind_ok, bind_err, bind_bad, th_ok, th_err, th_bad, nxth, retth, errth, badth, noerr_ok, fin_nx, fin_ret, fin_err, tidy_same, tidyX_same, List.getElem?_cons_zero, List.getElem?_cons_succ, List.set_cons_zero, List.set_cons_succ, isRat, isiC, isiT, tyC, truth_b, len_tup', ne_int]
    | [_] =>
      rw [rn, un f16 _ _ _ rfl (of_decide_eq_true rfl)]
      simp [F_is_ratio, Ss.ev, S.ev, Hs.ev, E.ev, Es.ev, T.ev, Pt.put, Pts.put, Pts.len, Es.len, Oe.ev, It.ev, bind_ok, bind_err, bind_bad, th_ok, th_err, th_bad, nxth, retth, errth, badth, noerr_ok, fin_nx, fin_ret, fin_err, tidy_same, tidyX_same, List.getElem?_cons_zero, List.getElem?_cons_succ, List.set_cons_zero, List.set_cons_succ, isRat, isiC, isiT, tyC, truth_b, len_tup', ne_int]
    | a :: b :: c :: r =>
      rw [rn, un f16 _ _ _ rfl (of_decide_eq_true rfl)]
      have : ((r.length : Int) + 1 + 1 + 1 == 2) = false := by
        rw [beq_eq_false_iff_ne]; omega
      simp [F_is_ratio, Ss.ev, S.ev, Hs.ev, E.ev, Es.ev, T.ev, Pt.put, Pts.put, Pts.len, Es.len, Oe.ev, It.ev, bind_ok, bind_err, bind_bad, th_ok, th_err, th_bad, nxth, retth, errth, badth, noerr_ok, fin_nx, fin_ret, fin_err, tidy_same, tidyX_same, List.getElem?_cons_zero, List.getElem?_cons_succ, List.set_cons_zero, List.set_cons_succ, isRat, isiC, isiT, tyC, truth_b, len_tup', ne_int, this]
  | _ => exact ratio_nt f16 d _ rfl
theorem chkr_run (d : Nat) (x : C) : rn (d + 3) 17 [x] h = if isRat x then .ok .non h else .err 0 [x] h := by
  have ri := fun (h : Hc) => rat_run (h := h) d x
  rw [rn, un f17 _ _ _ rfl (of_decide_eq_true rfl)]
  cases e : isRat x <;> simp [F_check_ratio, Ss.ev, S.ev, Hs.ev, E.ev, Es.ev, T.ev, Pt.put, Pts.put, Pts.len, Es.len, Oe.ev, It.ev, bind_ok, bind_err, bind_bad, th_ok, th_err, th_bad, nxth, retth, errth, badth, noerr_ok, fin_nx, fin_ret, fin_err, tidy_same, tidyX_same, List.getElem?_cons_zero, List.getElem?_cons_succ, List.set_cons_zero, List.set_cons_succ, ri, e, truth_b]
theorem chkp_run (d : Nat) (x : C) : rn (d + 3) 20 [x] h = if isPoly x then .ok .non h else .err 1 [x] h := check_polynomial_run f20 f19 f0 hWH d h x
theorem nought_run (d : Nat) (xs : List C) : rn (d + 1) 37 [.tup xs] h = if xs = [] then .err 4 [] h else .ok .non h := by
  rw [rn, un f37 _ _ _ rfl (of_decide_eq_true rfl)]
  have tt : ∀ h : Hc, truth (.tup xs) h = .ok (!xs.isEmpty) h := fun _ => rfl
  cases xs <;> simp [F_check_not_nought, Ss.ev, S.ev, Hs.ev, E.ev, Es.ev, T.ev, Pt.put, Pts.put, Pts.len, Es.len, Oe.ev, It.ev, bind_ok, bind_err, bind_bad, th_ok, th_err, th_bad, nxth, retth, errth, badth, noerr_ok, fin_nx, fin_ret, fin_err, tidy_same, tidyX_same, List.getElem?_cons_zero, List.getElem?_cons_succ, List.set_cons_zero, List.set_cons_succ, tt]
/-! ### refusals -/
theorem sg_bad (d : Nat) {x : C} (hx : isPoly x = false) : rn (d + 4) 22 [x] h = .err 1 [x] h := by
  have c := fun (h : Hc) => chkp_run (h := h) d x
  rw [rn, un f22 _ _ _ rfl (of_decide_eq_true rfl)]
  simp [F_sign_changes, Ss.ev, S.ev, Hs.ev, E.ev, Es.ev, T.ev, Pt.put, Pts.put, Pts.len, Es.len, Oe.ev, It.ev, bind_ok, bind_err, bind_bad, th_ok, th_err, th_bad, nxth, retth, errth, badth, noerr_ok, fin_nx, fin_ret, fin_err, tidy_same, tidyX_same, List.getElem?_cons_zero, List.getElem?_cons_succ, List.set_cons_zero, List.set_cons_succ, c, hx]
theorem re_bad (d : Nat) {x : C} (hx : isPoly x = false) : rn (d + 4) 38 [x] h = .err 1 [x] h := by
  have c := fun (h : Hc) => chkp_run (h := h) d x
  rw [rn, un f38 _ _ _ rfl (of_decide_eq_true rfl)]
  simp [F_real_count, Ss.ev, S.ev, Hs.ev, E.ev, Es.ev, T.ev, Pt.put, Pts.put, Pts.len, Es.len, Oe.ev, It.ev, bind_ok, bind_err, bind_bad, th_ok, th_err, th_bad, nxth, retth, errth, badth, noerr_ok, fin_nx, fin_ret, fin_err, tidy_same, tidyX_same, List.getElem?_cons_zero, List.getElem?_cons_succ, List.set_cons_zero, List.set_cons_succ, c, hx]
theorem bt_bad (d : Nat) {x y z : C} (hx : isPoly x = false) : rn (d + 4) 39 [x, y, z] h = .err 1 [x] h := by
  have c := fun (h : Hc) => chkp_run (h := h) d x
  rw [rn, un f39 _ _ _ rfl (of_decide_eq_true rfl)]
  simp [F_count_between, Ss.ev, S.ev, Hs.ev, E.ev, Es.ev, T.ev, Pt.put, Pts.put, Pts.len, Es.len, Oe.ev, It.ev, bind_ok, bind_err, bind_bad, th_ok, th_err, th_bad, nxth, retth, errth, badth, noerr_ok, fin_nx, fin_ret, fin_err, tidy_same, tidyX_same, List.getElem?_cons_zero, List.getElem?_cons_succ, List.set_cons_zero, List.set_cons_succ, c, hx]
theorem ab_bad (d : Nat) {x y : C} (hx : isPoly x = false) : rn (d + 4) 40 [x, y] h = .err 1 [x] h := by
  have c := fun (h : Hc) => chkp_run (h := h) d x
  rw [rn, un f40 _ _ _ rfl (of_decide_eq_true rfl)]
  simp [F_count_above, Ss.ev, S.ev, Hs.ev, E.ev, Es.ev, T.ev, Pt.put, Pts.put, Pts.len, Es.len, Oe.ev, It.ev, bind_ok, bind_err, bind_bad, th_ok, th_err, th_bad, nxth, retth, errth, badth, noerr_ok, fin_nx, fin_ret, fin_err, tidy_same, tidyX_same, List.getElem?_cons_zero, List.getElem?_cons_succ, List.set_cons_zero, List.set_cons_succ, c, hx]
theorem fl_bad (d : Nat) {x y z : C} (hx : isPoly x = false) : rn (d + 4) 41 [x, y, z] h = .err 1 [x] h := by
  have c := fun (h : Hc) => chkp_run (h := h) d x
  rw [rn, un f41 _ _ _ rfl (of_decide_eq_true rfl)]
  simp [F_root_floor, Ss.ev, S.ev, Hs.ev, E.ev, Es.ev, T.ev, Pt.put, Pts.put, Pts.len, Es.len, Oe.ev, It.ev, bind_ok, bind_err, bind_bad, th_ok, th_err, th_bad, nxth, retth, errth, badth, noerr_ok, fin_nx, fin_ret, fin_err, tidy_same, tidyX_same, List.getElem?_cons_zero, List.getElem?_cons_succ, List.set_cons_zero, List.set_cons_succ, c, hx]
theorem bt_r1 (d : Nat) {x y z : C} (hx : isPoly x = true) (hy : isRat y = false) : rn (d + 4) 39 [x, y, z] h = .err 0 [y] h := by
  have c := fun (h : Hc) => chkp_run (h := h) d x
  have c2 := fun (h : Hc) => chkr_run (h := h) d y
  rw [rn, un f39 _ _ _ rfl (of_decide_eq_true rfl)]
  simp [F_count_between, Ss.ev, S.ev, Hs.ev, E.ev, Es.ev, T.ev, Pt.put, Pts.put, Pts.len, Es.len, Oe.ev, It.ev, bind_ok, bind_err, bind_bad, th_ok, th_err, th_bad, nxth, retth, errth, badth, noerr_ok, fin_nx, fin_ret, fin_err, tidy_same, tidyX_same, List.getElem?_cons_zero, List.getElem?_cons_succ, List.set_cons_zero, List.set_cons_succ, c, hx, c2, hy]
theorem bt_r2 (d : Nat) {x y z : C} (hx : isPoly x = true) (hy : isRat y = true) (hz : isRat z = false) : rn (d + 4) 39 [x, y, z] h = .err 0 [z] h := by
  have c := fun (h : Hc) => chkp_run (h := h) d x
  have c2 := fun (h : Hc) => chkr_run (h := h) d y
  have c3 := fun (h : Hc) => chkr_run (h := h) d z
  rw [rn, un f39 _ _ _ rfl (of_decide_eq_true rfl)]
  simp [F_count_between, Ss.ev, S.ev, Hs.ev, E.ev, Es.ev, T.ev, Pt.put, Pts.put, Pts.len, Es.len, Oe.ev, It.ev, bind_ok, bind_err, bind_bad, th_ok, th_err, th_bad, nxth, retth, errth, badth, noerr_ok, fin_nx, fin_ret, fin_err, tidy_same, tidyX_same, List.getElem?_cons_zero, List.getElem?_cons_succ, List.set_cons_zero, List.set_cons_succ, c, hx, c2, hy, c3, hz]
theorem ab_r (d : Nat) {x y : C} (hx : isPoly x = true) (hy : isRat y = false) : rn (d + 4) 40 [x, y] h = .err 0 [y] h := by
  have c := fun (h : Hc) => chkp_run (h := h) d x
  have c2 := fun (h : Hc) => chkr_run (h := h) d y
  rw [rn, un f40 _ _ _ rfl (of_decide_eq_true rfl)]
  simp [F_count_above, Ss.ev, S.ev, Hs.ev, E.ev, Es.ev, T.ev, Pt.put, Pts.put, Pts.len, Es.len, Oe.ev, It.ev, bind_ok, bind_err, bind_bad, th_ok, th_err, th_bad, nxth, retth, errth, badth, noerr_ok, fin_nx, fin_ret, fin_err, tidy_same, tidyX_same, List.getElem?_cons_zero, List.getElem?_cons_succ, List.set_cons_zero, List.set_cons_succ, c, hx, c2, hy]
theorem re_n (d : Nat) : rn (d + 4) 38 [.tup []] h = .err 4 [] h := by
  have c := fun (h : Hc) => chkp_run (h := h) d (.tup [])
  have n := fun (h : Hc) => nought_run (h := h) (d + 2) []
  rw [rn, un f38 _ _ _ rfl (of_decide_eq_true rfl)]
  simp [F_real_count, Ss.ev, S.ev, Hs.ev, E.ev, Es.ev, T.ev, Pt.put, Pts.put, Pts.len, Es.len, Oe.ev, It.ev, bind_ok, bind_err, bind_bad, th_ok, th_err, th_bad, nxth, retth, errth, badth, noerr_ok, fin_nx, fin_ret, fin_err, tidy_same, tidyX_same, List.getElem?_cons_zero, List.getElem?_cons_succ, List.set_cons_zero, List.set_cons_succ, c, n, show isPoly (.tup []) = true from rfl]
theorem bt_n (d : Nat) {y z : C} (hy : isRat y = true) (hz : isRat z = true) : rn (d + 4) 39 [.tup [], y, z] h = .err 4 [] h := by
  have c := fun (h : Hc) => chkp_run (h := h) d (.tup [])
  have n := fun (h : Hc) => nought_run (h := h) (d + 2) []
  have c2 := fun (h : Hc) => chkr_run (h := h) d y
  have c3 := fun (h : Hc) => chkr_run (h := h) d z
  rw [rn, un f39 _ _ _ rfl (of_decide_eq_true rfl)]
  simp [F_count_between, Ss.ev, S.ev, Hs.ev, E.ev, Es.ev, T.ev, Pt.put, Pts.put, Pts.len, Es.len, Oe.ev, It.ev, bind_ok, bind_err, bind_bad, th_ok, th_err, th_bad, nxth, retth, errth, badth, noerr_ok, fin_nx, fin_ret, fin_err, tidy_same, tidyX_same, List.getElem?_cons_zero, List.getElem?_cons_succ, List.set_cons_zero, List.set_cons_succ, c, n, c2, hy, c3, hz, show isPoly (.tup []) = true from rfl]
theorem ab_n (d : Nat) {y : C} (hy : isRat y = true) : rn (d + 4) 40 [.tup [], y] h = .err 4 [] h := by
  have c := fun (h : Hc) => chkp_run (h := h) d (.tup [])
  have n := fun (h : Hc) => nought_run (h := h) (d + 2) []
  have c2 := fun (h : Hc) => chkr_run (h := h) d y
  rw [rn, un f40 _ _ _ rfl (of_decide_eq_true rfl)]
  simp [F_count_above, Ss.ev, S.ev, Hs.ev, E.ev, Es.ev, T.ev, Pt.put, Pts.put, Pts.len, Es.len, Oe.ev, It.ev, bind_ok, bind_err, bind_bad, th_ok, th_err, th_bad, nxth, retth, errth, badth, noerr_ok, fin_nx, fin_ret, fin_err, tidy_same, tidyX_same, List.getElem?_cons_zero, List.getElem?_cons_succ, List.set_cons_zero, List.set_cons_succ, c, n, c2, hy, show isPoly (.tup []) = true from rfl]
theorem fl_n (d : Nat) {y z : C} : rn (d + 4) 41 [.tup [], y, z] h = .err 4 [] h := by
  have c := fun (h : Hc) => chkp_run (h := h) d (.tup [])
  have n := fun (h : Hc) => nought_run (h := h) (d + 2) []
  rw [rn, un f41 _ _ _ rfl (of_decide_eq_true rfl)]
  simp [F_root_floor, Ss.ev, S.ev, Hs.ev, E.ev, Es.ev, T.ev, Pt.put, Pts.put, Pts.len, Es.len, Oe.ev, It.ev, bind_ok, bind_err, bind_bad, th_ok, th_err, th_bad, nxth, retth, errth, badth, noerr_ok, fin_nx, fin_ret, fin_err, tidy_same, tidyX_same, List.getElem?_cons_zero, List.getElem?_cons_succ, List.set_cons_zero, List.set_cons_succ, c, n, show isPoly (.tup []) = true from rfl]
theorem sg_n (cl : ClH h) : rn 8 22 [.tup []] h = .ok (.int 0) h := run_pure G_nr (isR_eq (by decide +kernel)) rfl rfl h cl
/-! ### the told polynomials -/
theorem tZ_nr : ∀ P : List Int, C.nrs (iZ P) = true
  | [] => rfl
  | a :: r => tZ_nr r
theorem rows_at {P : List Int} {m : Nat} (hp : (P, m) ∈ polys) (cl : ClH h) : ∃ c own, rn 7 23 [tZ P] h = .ok c (fh h own) ∧ rn 7 27 [c] (fh h own) = .ok (.int (m : Int)) (fh h own) := by
  have e := List.all_eq_true.mp rows_ok _ hp
  have e : rowsOk P m = true := e
  unfold rowsOk at e
  have np : C.nrs [tZ P] = true := by
    show ((tZ P).nr && true) = true
    rw [show (tZ P).nr = true from ?_]; rfl
    exact tZ_nr P
  split at e
  · rename_i c hs e1
    obtain ⟨e, e4⟩ := Bool.and_eq_true_iff.mp e
    obtain ⟨e2, e3⟩ := Bool.and_eq_true_iff.mp e
    split at e4
    · rename_i i hs2 e5
      obtain ⟨e6, e7⟩ := Bool.and_eq_true_iff.mp e4
      have e6 := of_decide_eq_true e6
      have e7 := hsame_eq _ _ e7
      subst e6 e7
      refine ⟨C.sh h.length c, hs, ?_, ?_⟩
      · have := run_fr (sub := sub) (w := WH) G_nr cl 7 23 [tZ P] []
        rw [e1, fh_nil, show shsn h [tZ P] = [tZ P] from nrs_shs _ _ np] at this
        exact this
      · have := run_fr (sub := sub) (w := WH) G_nr cl 7 27 [c] hs
        rw [e5] at this
        exact this
    · cases e4
  · cases e
theorem re_told {P : List Int} {m : Nat} (hp : (P, m) ∈ polys) (cl : ClH h) : rn 8 38 [tZ P] h = .ok (.int (m : Int)) h := by
  have e := isR_eq (List.all_eq_true.mp real_ok _ hp)
  refine run_pure G_nr e ?_ rfl h cl
  show ((tZ P).nr && true) = true
  rw [show (tZ P).nr = true from ?_]; rfl
  exact tZ_nr P
theorem polys_poly : polys.all (fun x => isPoly (tZ x.1) && !x.1.isEmpty) = true := by decide +kernel
def posOk (m : Nat) : C → Bool
  | .int i => decide (0 ≤ i) && decide (i < m)
  | _ => false
theorem take_fh (own : Hc) : (fh h own).take h.length = h := by
  unfold fh
  rw [List.take_left']
  rfl
theorem tidyX_fh (cl : ClH h) (own : Hc) (k : Nat) (xs : List C) (hx : C.unders h.length xs = true) : tidyX h.length k xs (fh h own) = .err k xs h := by
  unfold tidyX
  rw [take_fh, hx, show h.all (C.unders h.length) = true from cl]
  rfl
theorem fl_pos {P : List Int} {m : Nat} (hp : (P, m) ∈ polys) (cl : ClH h) {y z : C} (hy : posOk m y = false) (uy : C.under h.length y = true) : rn 8 41 [tZ P, y, z] h = .err 3 [y] h := by
  obtain ⟨c, own, e1, e2⟩ := rows_at hp cl
  obtain ⟨q1, q2⟩ := Bool.and_eq_true_iff.mp (List.all_eq_true.mp polys_poly _ hp)
  have c1 := fun (h : Hc) => chkp_run (h := h) 4 (tZ P)
  have n1 := fun (h : Hc) => nought_run (h := h) 6 (iZ P)
  have n2 : ¬ iZ P = [] := by
    intro z0
    cases P with
    | nil => cases q2
    | cons a r => cases z0
  have k1 := fun (h : Hc) => count_run (h := h) 5 y
  have tx := tidyX_fh cl own 3 [y] (by show (C.under h.length y && true) = true; rw [uy]; rfl)
  rw [rn, un f41 _ _ _ rfl (of_decide_eq_true rfl)]
  have q1 : isPoly (tZ P) = true := q1
  have n1' : ∀ h : Hc, run G sub WH 7 37 [tZ P] h = .ok .non h := fun h => by have := n1 h; rw [if_neg n2] at this; exact this
  cases y with
  | int i =>
    by_cases hi : 0 ≤ i
    · have : (m : Int) ≤ i := by
        simp only [posOk, hi, decide_true, Bool.true_and, decide_eq_false_iff_not] at hy
        omega
      simp [F_root_floor, Ss.ev, S.ev, Hs.ev, E.ev, Es.ev, T.ev, Pt.put, Pts.put, Pts.len, Es.len, Oe.ev, It.ev, bind_ok, bind_err, bind_bad, th_ok, th_err, th_bad, nxth, retth, errth, badth, noerr_ok, fin_nx, fin_ret, fin_err, tidy_same, tidyX_same, List.getElem?_cons_zero, List.getElem?_cons_succ, List.set_cons_zero, List.set_cons_succ, c1, q1, n1', e1, e2, k1, isCnt, hi, truth_b, ge_i, this, fin, tx]
    · simp [F_root_floor, Ss.ev, S.ev, Hs.ev, E.ev, Es.ev, T.ev, Pt.put, Pts.put, Pts.len, Es.len, Oe.ev, It.ev, bind_ok, bind_err, bind_bad, th_ok, th_err, th_bad, nxth, retth, errth, badth, noerr_ok, fin_nx, fin_ret, fin_err, tidy_same, tidyX_same, List.getElem?_cons_zero, List.getElem?_cons_succ, List.set_cons_zero, List.set_cons_succ, c1, q1, n1', e1, e2, k1, isCnt, hi, truth_b, ge_i, fin, tx]
  | _ => simp [F_root_floor, Ss.ev, S.ev, Hs.ev, E.ev, Es.ev, T.ev, Pt.put, Pts.put, Pts.len, Es.len, Oe.ev, It.ev, bind_ok, bind_err, bind_bad, th_ok, th_err, th_bad, nxth, retth, errth, badth, noerr_ok, fin_nx, fin_ret, fin_err, tidy_same, tidyX_same, List.getElem?_cons_zero, List.getElem?_cons_succ, List.set_cons_zero, List.set_cons_succ, c1, q1, n1', e1, e2, k1, isCnt, truth_b, ge_i, fin, tx]
theorem fl_many {P : List Int} {m : Nat} (hp : (P, m) ∈ polys) (cl : ClH h) {i : Int} {z : C} (h1 : 0 ≤ i) (h2 : i < m) (hz : isMn 0 400 z = false) (uz : C.under h.length z = true) : rn 8 41 [tZ P, .int i, z] h = .err 2 [z] h := by
  obtain ⟨c, own, e1, e2⟩ := rows_at hp cl
  obtain ⟨q1, q2⟩ := Bool.and_eq_true_iff.mp (List.all_eq_true.mp polys_poly _ hp)
  have c1 := fun (h : Hc) => chkp_run (h := h) 4 (tZ P)
  have n1 := fun (h : Hc) => nought_run (h := h) 6 (iZ P)
  have n2 : ¬ iZ P = [] := by
    intro z0
    cases P with
    | nil => cases q2
    | cons a r => cases z0
  have k1 := fun (h : Hc) => count_run (h := h) 5 (.int i)
  have k2 := fun (h : Hc) => many_run (h := h) 5 z 0 400
  have tx := tidyX_fh cl own 2 [z] (by show (C.under h.length z && true) = true; rw [uz]; rfl)
  rw [rn, un f41 _ _ _ rfl (of_decide_eq_true rfl)]
  have q1 : isPoly (tZ P) = true := q1
  have n1' : ∀ h : Hc, run G sub WH 7 37 [tZ P] h = .ok .non h := fun h => by have := n1 h; rw [if_neg n2] at this; exact this
  have : ¬ (m : Int) ≤ i := by omega
  simp [F_root_floor, Ss.ev, S.ev, Hs.ev, E.ev, Es.ev, T.ev, Pt.put, Pts.put, Pts.len, Es.len, Oe.ev, It.ev, bind_ok, bind_err, bind_bad, th_ok, th_err, th_bad, nxth, retth, errth, badth, noerr_ok, fin_nx, fin_ret, fin_err, tidy_same, tidyX_same, List.getElem?_cons_zero, List.getElem?_cons_succ, List.set_cons_zero, List.set_cons_succ, c1, q1, n1', e1, e2, k1, isCnt, h1, truth_b, ge_i, this, fin, k2, hz, tx]
end K16
set_option linter.all false
set_option autoImplicit false
set_option maxRecDepth 100000
set_option maxHeartbeats 16000000
namespace K16
open Sh PySem
variable {h : Hc}
theorem int_i (h : Hc) (i : Int) : bi .int [.int i] h = .ok (.int i) h := rfl
theorem draw_ok : DrawOk G sub WH 43 := by
  intro d h n many p h1 h2
  have hn := p.lt
  obtain ⟨L, e0, p0, p1, rfl, q1, q2⟩ := p
  by_cases z : 0 < p0
  · refine ⟨p0 % many, h.set n [.int (p0 / many), .int p1], Int.emod_nonneg _ (by omega), Int.emod_lt_of_pos _ h1, .inr ⟨_, rfl, _, _, rfl, q1, q2⟩, ?_⟩
    rw [un f43 _ _ _ rfl (of_decide_eq_true rfl)]
    simp [F_law_draw, Ss.ev, S.ev, Hs.ev, E.ev, Es.ev, T.ev, Pt.put, Pts.put, Pts.len, Es.len, Oe.ev, It.ev, bind_ok, bind_err, bind_bad, th_ok, th_err, th_bad, nxth, retth, errth, badth, noerr_ok, fin_nx, fin_ret, fin_err, tidy_same, tidyX_same, List.getElem?_cons_zero, List.getElem?_cons_succ, List.set_cons_zero, List.set_cons_succ, itr0 e0, gt_i, z, divmod_int _ _ _ h1 h2, sei0 e0, tidy_len]
  · obtain ⟨f1, f2⟩ := fmod_b (p1 * 40014 + 1109) (by decide : (0 : Int) < 2147483563)
    generalize hr : (p1 * 40014 + 1109).fmod 2147483563 = r at f1 f2
    obtain ⟨f3, f4⟩ := fmod_b (((r * r).fmod 2147483587).fdiv 21) h1
    have e2 : (h.set n [.int p0, .int r])[n]? = some [.int p0, .int r] := List.getElem?_set_self hn
    have m1 := mul_of (i := p1) (j := 40014) (bd_small (by omega) (by omega)) (bd_small (by omega) (by omega)) (by decide) (by decide)
    have m2 := mul_of (i := r) (j := r) (bd_small (by omega) (by omega)) (bd_small (by omega) (by omega)) (by decide) (by decide)
    obtain ⟨g1, g2⟩ := fmod_b (r * r) (by decide : (0 : Int) < 2147483587)
    have dv := div_of (i := (r * r).fmod 2147483587) (j := 21) (b := 80) (by decide) (bd_small (by omega) (by omega)) (by decide)
    have md1 := mod_of (i := p1 * 40014 + 1109) (j := 2147483563) (by decide)
    have md2 := mod_of (i := r * r) (j := 2147483587) (by decide)
    have md3 := mod_of (i := ((r * r).fmod 2147483587).fdiv 21) (j := many) (by omega)
    rw [hr] at md1
    refine ⟨_, h.set n [.int p0, .int r], f3, f4, .inr ⟨_, rfl, _, _, rfl, f1, by omega⟩, ?_⟩
    rw [un f43 _ _ _ rfl (of_decide_eq_true rfl)]
    simp [F_law_draw, Ss.ev, S.ev, Hs.ev, E.ev, Es.ev, T.ev, Pt.put, Pts.put, Pts.len, Es.len, Oe.ev, It.ev, bind_ok, bind_err, bind_bad, th_ok, th_err, th_bad, nxth, retth, errth, badth, noerr_ok, fin_nx, fin_ret, fin_err, tidy_same, tidyX_same, List.getElem?_cons_zero, List.getElem?_cons_succ, List.set_cons_zero, List.set_cons_succ, itr0 e0, itr1 e0, itr1 e2, gt_i, z, sei1 e0, tidy_len, bin_mul', add_int, bin_mod', bin_div', m1, m2, dv, md1, md2, md3, int_i]
theorem pot_run (d : Nat) (h : Hc) (ns : List Int) (cl : ClH h) : ∃ n h', PotAt h' n ∧ ClH h' ∧ rn (d + 1) 42 [.frz (iZ ns), .int 0] h = .ok (.ref n) h' := by
  have key : ∀ (cell : Int), ∃ s : Int, (cell.fmod 2147483549 * 41201 + 0 + 661).fmod 2147483563 + 1 = s ∧ Pot [.int (if cell - 1000000000000000000 > 0 then cell - 1000000000000000000 else 0), .int s] := fun cell => by
    obtain ⟨f3, f4⟩ := fmod_b (cell.fmod 2147483549 * 41201 + 0 + 661) (by decide : (0 : Int) < 2147483563)
    exact ⟨_, rfl, _, _, rfl, by omega, by omega⟩
  have bounds : ∀ cell : Int, Bd 80 (cell.fmod 2147483549) := fun cell => by
    obtain ⟨f1, f2⟩ := fmod_b cell (by decide : (0 : Int) < 2147483549)
    exact bd_small (by omega) (by omega)
  have m2 : ∀ h : Hc, mulC (.int 4021) (.int 0) h = .ok (.int 0) h := fun h => mul_of (i := 4021) (j := 0) (bd_small (by omega) (by omega)) (bd_small (by omega) (by omega)) (by decide) (by decide) h
  have m3 : ∀ h : Hc, mulC (.int 919) (.int 0) h = .ok (.int 0) h := fun h => mul_of (i := 919) (j := 0) (bd_small (by omega) (by omega)) (bd_small (by omega) (by omega)) (by decide) (by decide) h
  have md1 := fun (i : Int) => mod_of (i := i) (j := 2147483549) (by decide)
  have md2 := fun (i : Int) => mod_of (i := i) (j := 2147483563) (by decide)
  have m1 := fun (i : Int) => mul_of (j := 41201) (bounds i) (bd_small (by omega) (by omega)) (by decide) (by decide)
  rw [rn, un f42 _ _ _ rfl (of_decide_eq_true rfl)]
  simp only [F_law_pot, List.map_cons, List.map_nil, List.replicate, List.cons_append, List.nil_append, Nat.reduceSub]
  by_cases z : 0 < ns.length
  · have zi : ((0 : Int) < ((iZ ns).length : Int)) := by rw [iZ_len]; omega
    have e1 : item (.frz (iZ ns)) (.int 0) h = .ok (.int (gI ns 0)) h := item_iZ 0 rfl z
    generalize hc : (if gI ns 0 < 0 then -gI ns 0 else gI ns 0) = cell
    obtain ⟨s, s3, s1⟩ := key cell
    refine ⟨h.length, h ++ [[.int (if cell - 1000000000000000000 > 0 then cell - 1000000000000000000 else 0), .int s]], ⟨_, last_get _ _, s1⟩, cl_push cl (s1.under _), ?_⟩
    simp only [Ss.ev, S.ev, Hs.ev, E.ev, Es.ev, T.ev, Pt.put, Pts.put, Pts.len, Es.len, Oe.ev, It.ev, bind_ok, bind_err, bind_bad, th_ok, th_err, th_bad, nxth, retth, errth, badth, noerr_ok, fin_nx, fin_ret, fin_err, tidy_same, tidyX_same, List.getElem?_cons_zero, List.getElem?_cons_succ, List.set_cons_zero, List.set_cons_succ, lt_i, len_frz, zi, decide_true, if_true, e1, abs_i, hc, bin_mod', md1, bin_mul', m1, m2, add_int, md2, pow18, sub_int, max_int, int_i, s3]
    simp only [len2, if_true, Ss.ev, S.ev, Hs.ev, E.ev, Es.ev, T.ev, Pt.put, Pts.put, Pts.len, Es.len, Oe.ev, It.ev, bind_ok, bind_err, bind_bad, th_ok, th_err, th_bad, nxth, retth, errth, badth, noerr_ok, fin_nx, fin_ret, fin_err, tidy_same, tidyX_same, List.getElem?_cons_zero, List.getElem?_cons_succ, List.set_cons_zero, List.set_cons_succ]
    exact tidy_ref (Nat.le_refl _)
  · have zi : ¬ ((0 : Int) < ((iZ ns).length : Int)) := by rw [iZ_len]; omega
    obtain ⟨s, s3, s1⟩ := key 587
    refine ⟨h.length, h ++ [[.int (if (587 : Int) - 1000000000000000000 > 0 then 587 - 1000000000000000000 else 0), .int s]], ⟨_, last_get _ _, s1⟩, cl_push cl (s1.under _), ?_⟩
    simp only [Ss.ev, S.ev, Hs.ev, E.ev, Es.ev, T.ev, Pt.put, Pts.put, Pts.len, Es.len, Oe.ev, It.ev, bind_ok, bind_err, bind_bad, th_ok, th_err, th_bad, nxth, retth, errth, badth, noerr_ok, fin_nx, fin_ret, fin_err, tidy_same, tidyX_same, List.getElem?_cons_zero, List.getElem?_cons_succ, List.set_cons_zero, List.set_cons_succ, lt_i, len_frz, zi, decide_false, if_false, Bool.false_eq_true, bin_mul', m3, add_int, Int.zero_add, bin_mod', md1, m1, m2, md2, pow18, sub_int, max_int, int_i, s3]
    simp only [len2, if_true, Ss.ev, S.ev, Hs.ev, E.ev, Es.ev, T.ev, Pt.put, Pts.put, Pts.len, Es.len, Oe.ev, It.ev, bind_ok, bind_err, bind_bad, th_ok, th_err, th_bad, nxth, retth, errth, badth, noerr_ok, fin_nx, fin_ret, fin_err, tidy_same, tidyX_same, List.getElem?_cons_zero, List.getElem?_cons_succ, List.set_cons_zero, List.set_cons_succ]
    exact tidy_ref (Nat.le_refl _)
theorem pick_run (d : Nat) {p q : Nat} {xs : List C} (hp : PotAt h p) (hq : h[q]? = some xs) (hne : q ≠ p) (h0 : 0 < xs.length) (h1 : xs.length < 1000) : ∃ (i : Nat) (c : C) (h' : Hc), xs[i]? = some c ∧ Nx p h h' ∧ rn (d + 2) 44 [.ref p, .ref q] h = .ok c h' := by
  obtain ⟨dg, h', a1, a2, a3, a4⟩ := draw_ok d h p (xs.length : Int) hp (by omega) (by omega)
  have a5 : xs[dg.toNat]? = some (xs[dg.toNat]'(by omega)) := List.getElem?_eq_getElem _
  refine ⟨dg.toNat, xs[dg.toNat]'(by omega), h', a5, a3, ?_⟩
  have e1 : bi .len [.ref q] h = .ok (.int xs.length) h := len_of (seq_ref hq)
  have e2 := item_refN (i := dg) (j := dg.toNat) (by rw [a3.get hne]; exact hq) (by omega) a5
  rw [rn, un f44 _ _ _ rfl (of_decide_eq_true rfl)]
  simp only [F_law_pick, Ss.ev, S.ev, Hs.ev, E.ev, Es.ev, T.ev, Pt.put, Pts.put, Pts.len, Es.len, Oe.ev, It.ev, bind_ok, bind_err, bind_bad, th_ok, th_err, th_bad, nxth, retth, errth, badth, noerr_ok, fin_nx, fin_ret, fin_err, tidy_same, tidyX_same, List.getElem?_cons_zero, List.getElem?_cons_succ, List.set_cons_zero, List.set_cons_succ, List.map_cons, List.map_nil, List.replicate, List.cons_append, List.nil_append, Nat.reduceSub, e1, a4, e2]
  exact tidy_len a3.len _
end K16
set_option linter.all false
set_option autoImplicit false
set_option maxRecDepth 100000
set_option maxHeartbeats 16000000
namespace K16
open Sh PySem
variable {h : Hc}
/-! ### values and what repr tells of them -/
def VD (p : Nat) (h : Hc) (c : C) (dv : PyData) : Prop := okD dv = true ∧ ∀ h', Stp p h h' → datum h' c = some dv
theorem VD.step {p : Nat} {h h' : Hc} {c : C} {dv : PyData} (v : VD p h c dv) (s : Stp p h h') : VD p h' c dv := ⟨v.1, fun h2 s2 => v.2 h2 (s.trans s2)⟩
theorem VD.now {p : Nat} {c : C} {dv : PyData} (v : VD p h c dv) (a : PotAt h p) (cl : ClH h) : bi .repr [c] h = .ok (.rep dv) h := by
  have e := v.1
  unfold okD at e
  exact repr_of (v.2 h (.refl a cl)) (Bool.and_eq_true_iff.mp e).1
theorem VD.pure {p : Nat} {h : Hc} {c : C} {dv : PyData} (k : okD dv = true) (e : ∀ h', datum h' c = some dv) : VD p h c dv := ⟨k, fun h' _ => e h'⟩
theorem dat12 {h' : Hc} {n : Nat} (e2 : h'[n]? = some [.int 1, .int 2]) : datum h' (.ref n) = some (.list [.int 1, .int 2]) := by
  show (match h'[n]? with
    | some cs => (cs.mapM (toD h' 59)).map PyData.list
    | none => none) = _
  rw [e2]
  simp [toD]
theorem dat1 {h' : Hc} {n : Nat} (e2 : h'[n]? = some [.int 1]) : datum h' (.ref n) = some (.list [.int 1]) := by
  show (match h'[n]? with
    | some cs => (cs.mapM (toD h' 59)).map PyData.list
    | none => none) = _
  rw [e2]
  simp [toD]
theorem vd12 {p n : Nat} (hn : h[n]? = some [.int 1, .int 2]) (hp : n ≠ p) : VD p h (.ref n) (.list [.int 1, .int 2]) :=
  ⟨by decide +kernel, fun h' s => dat12 (by rw [s.keep n (List.getElem?_eq_some_iff.mp hn).1 hp]; exact hn)⟩
theorem vd1 {p n : Nat} (hn : h[n]? = some [.int 1]) (hp : n ≠ p) : VD p h (.ref n) (.list [.int 1]) :=
  ⟨by decide +kernel, fun h' s => dat1 (by rw [s.keep n (List.getElem?_eq_some_iff.mp hn).1 hp]; exact hn)⟩
theorem eq_str (h : Hc) (x y : Str) (b : Bool) (hx : PyData.strOk x = true) (hy : PyData.strOk y = true) (hb : (x == y) = b) : cmpop .eq (.str x) (.str y) h = .ok (.bl b) h := by
  have e : ceq h 40 (.str x) (.str y) = some b := by
    show eqFar h 40 (.str x) (.str y) = _
    unfold eqFar
    simp [toD, SeqAt.shaped, PyData.canLay0, PyData.depth, PyData.eqv, hx, hy, hb]
  show (match ceq h 40 (.str x) (.str y) with
    | some b => R.ok (C.bl b) h
    | none => .bad) = _
  rw [e]
end K16
set_option linter.all false
set_option autoImplicit false
set_option maxRecDepth 100000
set_option maxHeartbeats 16000000
namespace K16
open Sh PySem
variable {h : Hc}
/-! ### what is told -/
theorem q11 (h : Hc) : cmpop .eq (.str "signs") (.str "signs") h = .ok (.bl true) h := eq_str h _ _ _ (by decide +kernel) (by decide +kernel) (by decide +kernel)
theorem q21 (h : Hc) : cmpop .eq (.str "real") (.str "signs") h = .ok (.bl false) h := eq_str h _ _ _ (by decide +kernel) (by decide +kernel) (by decide +kernel)
theorem q22 (h : Hc) : cmpop .eq (.str "real") (.str "real") h = .ok (.bl true) h := eq_str h _ _ _ (by decide +kernel) (by decide +kernel) (by decide +kernel)
theorem q31 (h : Hc) : cmpop .eq (.str "between") (.str "signs") h = .ok (.bl false) h := eq_str h _ _ _ (by decide +kernel) (by decide +kernel) (by decide +kernel)
theorem q32 (h : Hc) : cmpop .eq (.str "between") (.str "real") h = .ok (.bl false) h := eq_str h _ _ _ (by decide +kernel) (by decide +kernel) (by decide +kernel)
theorem q33 (h : Hc) : cmpop .eq (.str "between") (.str "between") h = .ok (.bl true) h := eq_str h _ _ _ (by decide +kernel) (by decide +kernel) (by decide +kernel)
theorem q41 (h : Hc) : cmpop .eq (.str "above") (.str "signs") h = .ok (.bl false) h := eq_str h _ _ _ (by decide +kernel) (by decide +kernel) (by decide +kernel)
theorem q42 (h : Hc) : cmpop .eq (.str "above") (.str "real") h = .ok (.bl false) h := eq_str h _ _ _ (by decide +kernel) (by decide +kernel) (by decide +kernel)
theorem q43 (h : Hc) : cmpop .eq (.str "above") (.str "between") h = .ok (.bl false) h := eq_str h _ _ _ (by decide +kernel) (by decide +kernel) (by decide +kernel)
theorem q44 (h : Hc) : cmpop .eq (.str "above") (.str "above") h = .ok (.bl true) h := eq_str h _ _ _ (by decide +kernel) (by decide +kernel) (by decide +kernel)
theorem q51 (h : Hc) : cmpop .eq (.str "floor") (.str "signs") h = .ok (.bl false) h := eq_str h _ _ _ (by decide +kernel) (by decide +kernel) (by decide +kernel)
theorem q52 (h : Hc) : cmpop .eq (.str "floor") (.str "real") h = .ok (.bl false) h := eq_str h _ _ _ (by decide +kernel) (by decide +kernel) (by decide +kernel)
theorem q53 (h : Hc) : cmpop .eq (.str "floor") (.str "between") h = .ok (.bl false) h := eq_str h _ _ _ (by decide +kernel) (by decide +kernel) (by decide +kernel)
theorem q54 (h : Hc) : cmpop .eq (.str "floor") (.str "above") h = .ok (.bl false) h := eq_str h _ _ _ (by decide +kernel) (by decide +kernel) (by decide +kernel)
def Pu (r : R C) (h : Hc) : Prop := (∃ i, r = .ok (.int i) h) ∨ ∃ k xs, r = .err k xs h
theorem it_a {h : Hc} {n j : Nat} {xs : List C} {c : C} (e : h[n]? = some xs) (hc : xs[j]? = some c) : item (.ref n) (.int (j : Int)) h = .ok c h := item_refN e rfl hc
theorem told_sg {n : Nat} {v : C} {r : R C} (hv : h[n]? = some [v]) (e : rn 8 22 [v] h = r) (p : Pu r h) : rn 9 45 [.str "signs", .ref n] h = r := by
  have i0 : item (.ref n) (.int 0) h = .ok v h := it_a (j := 0) hv rfl
  rw [rn, un f45 _ _ _ rfl (of_decide_eq_true rfl)]
  have e : run G sub WH 8 22 [v] h = r := e
  rcases p with ⟨i, rfl⟩ | ⟨k, xs, rfl⟩ <;> simp [F_law_told, Ss.ev, S.ev, Hs.ev, E.ev, Es.ev, T.ev, Pt.put, Pts.put, Pts.len, Es.len, Oe.ev, It.ev, bind_ok, bind_err, bind_bad, th_ok, th_err, th_bad, nxth, retth, errth, badth, noerr_ok, fin_nx, fin_ret, fin_err, tidy_same, tidyX_same, List.getElem?_cons_zero, List.getElem?_cons_succ, List.set_cons_zero, List.set_cons_succ, q11, i0, e, truth_b]
theorem told_re {n : Nat} {v : C} {r : R C} (hv : h[n]? = some [v]) (e : rn 8 38 [v] h = r) (p : Pu r h) : rn 9 45 [.str "real", .ref n] h = r := by
  have i0 : item (.ref n) (.int 0) h = .ok v h := it_a (j := 0) hv rfl
  rw [rn, un f45 _ _ _ rfl (of_decide_eq_true rfl)]
  have e : run G sub WH 8 38 [v] h = r := e
  rcases p with ⟨i, rfl⟩ | ⟨k, xs, rfl⟩ <;> simp [F_law_told, Ss.ev, S.ev, Hs.ev, E.ev, Es.ev, T.ev, Pt.put, Pts.put, Pts.len, Es.len, Oe.ev, It.ev, bind_ok, bind_err, bind_bad, th_ok, th_err, th_bad, nxth, retth, errth, badth, noerr_ok, fin_nx, fin_ret, fin_err, tidy_same, tidyX_same, List.getElem?_cons_zero, List.getElem?_cons_succ, List.set_cons_zero, List.set_cons_succ, q21, q22, i0, e, truth_b]
theorem told_bt {n : Nat} {v u t : C} {r : R C} (hv : h[n]? = some [v, u, t]) (e : rn 8 39 [v, u, t] h = r) (p : Pu r h) : rn 9 45 [.str "between", .ref n] h = r := by
  have i0 : item (.ref n) (.int 0) h = .ok v h := it_a (j := 0) hv rfl
  have i1 : item (.ref n) (.int 1) h = .ok u h := it_a (j := 1) hv rfl
  have i2 : item (.ref n) (.int 2) h = .ok t h := it_a (j := 2) hv rfl
  rw [rn, un f45 _ _ _ rfl (of_decide_eq_true rfl)]
  have e : run G sub WH 8 39 [v, u, t] h = r := e
  rcases p with ⟨i, rfl⟩ | ⟨k, xs, rfl⟩ <;> simp [F_law_told, Ss.ev, S.ev, Hs.ev, E.ev, Es.ev, T.ev, Pt.put, Pts.put, Pts.len, Es.len, Oe.ev, It.ev, bind_ok, bind_err, bind_bad, th_ok, th_err, th_bad, nxth, retth, errth, badth, noerr_ok, fin_nx, fin_ret, fin_err, tidy_same, tidyX_same, List.getElem?_cons_zero, List.getElem?_cons_succ, List.set_cons_zero, List.set_cons_succ, q31, q32, q33, i0, i1, i2, e, truth_b]
theorem told_ab {n : Nat} {v u : C} {r : R C} (hv : h[n]? = some [v, u]) (e : rn 8 40 [v, u] h = r) (p : Pu r h) : rn 9 45 [.str "above", .ref n] h = r := by
  have i0 : item (.ref n) (.int 0) h = .ok v h := it_a (j := 0) hv rfl
  have i1 : item (.ref n) (.int 1) h = .ok u h := it_a (j := 1) hv rfl
  rw [rn, un f45 _ _ _ rfl (of_decide_eq_true rfl)]
  have e : run G sub WH 8 40 [v, u] h = r := e
  rcases p with ⟨i, rfl⟩ | ⟨k, xs, rfl⟩ <;> simp [F_law_told, Ss.ev, S.ev, Hs.ev, E.ev, Es.ev, T.ev, Pt.put, Pts.put, Pts.len, Es.len, Oe.ev, It.ev, bind_ok, bind_err, bind_bad, th_ok, th_err, th_bad, nxth, retth, errth, badth, noerr_ok, fin_nx, fin_ret, fin_err, tidy_same, tidyX_same, List.getElem?_cons_zero, List.getElem?_cons_succ, List.set_cons_zero, List.set_cons_succ, q41, q42, q43, q44, i0, i1, e, truth_b]
theorem told_fl {n : Nat} {v u t : C} {r : R C} (hv : h[n]? = some [v, u, t]) (e : rn 8 41 [v, u, t] h = r) (p : Pu r h) : rn 9 45 [.str "floor", .ref n] h = r := by
  have i0 : item (.ref n) (.int 0) h = .ok v h := it_a (j := 0) hv rfl
  have i1 : item (.ref n) (.int 1) h = .ok u h := it_a (j := 1) hv rfl
  have i2 : item (.ref n) (.int 2) h = .ok t h := it_a (j := 2) hv rfl
  rw [rn, un f45 _ _ _ rfl (of_decide_eq_true rfl)]
  have e : run G sub WH 8 41 [v, u, t] h = r := e
  rcases p with ⟨i, rfl⟩ | ⟨k, xs, rfl⟩ <;> simp [F_law_told, Ss.ev, S.ev, Hs.ev, E.ev, Es.ev, T.ev, Pt.put, Pts.put, Pts.len, Es.len, Oe.ev, It.ev, bind_ok, bind_err, bind_bad, th_ok, th_err, th_bad, nxth, retth, errth, badth, noerr_ok, fin_nx, fin_ret, fin_err, tidy_same, tidyX_same, List.getElem?_cons_zero, List.getElem?_cons_succ, List.set_cons_zero, List.set_cons_succ, q51, q52, q53, q54, i0, i1, i2, e, truth_b]
end K16
set_option linter.all false
set_option autoImplicit false
set_option maxRecDepth 100000
set_option maxHeartbeats 16000000
namespace K16
open Sh PySem
variable {h : Hc}
/-! ### what is raised -/
theorem s0 : sub 0 "_law_is_value" = some true := by decide +kernel
theorem s1 : sub 1 "_law_is_value" = some true := by decide +kernel
theorem s2 : sub 2 "_law_is_value" = some true := by decide +kernel
theorem s3 : sub 3 "_law_is_value" = some true := by decide +kernel
theorem s4a : sub 4 "StateError" = some true := by decide +kernel
theorem s4b : sub 4 "RuntimeError" = some true := by decide +kernel
def nameOf : Nat → Str
  | 0 => "InvalidRatio"
  | 1 => "InvalidPolynomial"
  | 2 => "InvalidMany"
  | _ => "InvalidPosition"
theorem ra_err {wd : Str} {n k : Nat} {c : C} {dv : PyData} (hk : k < 4) (e : rn 9 45 [.str wd, .ref n] h = .err k [c] h) (hd : bi .repr [c] h = .ok (.rep dv) h) : rn 10 46 [.str wd, .ref n] h = .ok (.ref h.length) (h ++ [[.str (nameOf k), .rep dv, .bl true]]) := by
  have t := fun (h1 : Hc) => tidy_ref (h := h) (h1 := h1) (n := h.length) (Nat.le_refl _)
  have e : run G sub WH 9 45 [.str wd, .ref n] h = .err k [c] h := e
  rw [rn, un f46 _ _ _ rfl (of_decide_eq_true rfl)]
  match k, hk with
  | 0, _ => simp [F_law_raised, Ss.ev, S.ev, Hs.ev, E.ev, Es.ev, T.ev, Pt.put, Pts.put, Pts.len, Es.len, Oe.ev, It.ev, bind_ok, bind_err, bind_bad, th_ok, th_err, th_bad, nxth, retth, errth, badth, noerr_ok, fin_nx, fin_ret, fin_err, tidy_same, tidyX_same, List.getElem?_cons_zero, List.getElem?_cons_succ, List.set_cons_zero, List.set_cons_succ, e, hd, s0, line3, nameOf, t]
  | 1, _ => simp [F_law_raised, Ss.ev, S.ev, Hs.ev, E.ev, Es.ev, T.ev, Pt.put, Pts.put, Pts.len, Es.len, Oe.ev, It.ev, bind_ok, bind_err, bind_bad, th_ok, th_err, th_bad, nxth, retth, errth, badth, noerr_ok, fin_nx, fin_ret, fin_err, tidy_same, tidyX_same, List.getElem?_cons_zero, List.getElem?_cons_succ, List.set_cons_zero, List.set_cons_succ, e, hd, s1, line3, nameOf, t]
  | 2, _ => simp [F_law_raised, Ss.ev, S.ev, Hs.ev, E.ev, Es.ev, T.ev, Pt.put, Pts.put, Pts.len, Es.len, Oe.ev, It.ev, bind_ok, bind_err, bind_bad, th_ok, th_err, th_bad, nxth, retth, errth, badth, noerr_ok, fin_nx, fin_ret, fin_err, tidy_same, tidyX_same, List.getElem?_cons_zero, List.getElem?_cons_succ, List.set_cons_zero, List.set_cons_succ, e, hd, s2, line3, nameOf, t]
  | 3, _ => simp [F_law_raised, Ss.ev, S.ev, Hs.ev, E.ev, Es.ev, T.ev, Pt.put, Pts.put, Pts.len, Es.len, Oe.ev, It.ev, bind_ok, bind_err, bind_bad, th_ok, th_err, th_bad, nxth, retth, errth, badth, noerr_ok, fin_nx, fin_ret, fin_err, tidy_same, tidyX_same, List.getElem?_cons_zero, List.getElem?_cons_succ, List.set_cons_zero, List.set_cons_succ, e, hd, s3, line3, nameOf, t]
theorem ra_n {wd : Str} {n : Nat} (e : rn 9 45 [.str wd, .ref n] h = .err 4 [] h) : rn 10 46 [.str wd, .ref n] h = .ok (.ref h.length) (h ++ [[.str "IsNought", .str "", .bl true]]) := by
  have t := fun (h1 : Hc) => tidy_ref (h := h) (h1 := h1) (n := h.length) (Nat.le_refl _)
  have e : run G sub WH 9 45 [.str wd, .ref n] h = .err 4 [] h := e
  rw [rn, un f46 _ _ _ rfl (of_decide_eq_true rfl)]
  simp [F_law_raised, Ss.ev, S.ev, Hs.ev, E.ev, Es.ev, T.ev, Pt.put, Pts.put, Pts.len, Es.len, Oe.ev, It.ev, bind_ok, bind_err, bind_bad, th_ok, th_err, th_bad, nxth, retth, errth, badth, noerr_ok, fin_nx, fin_ret, fin_err, tidy_same, tidyX_same, List.getElem?_cons_zero, List.getElem?_cons_succ, List.set_cons_zero, List.set_cons_succ, e, s4a, s4b, line3, t]
theorem ra_told {wd : Str} {n : Nat} {i : Int} {dv : PyData} (e : rn 9 45 [.str wd, .ref n] h = .ok (.int i) h) (hd : bi .repr [.int i] h = .ok (.rep dv) h) : rn 10 46 [.str wd, .ref n] h = .ok (.ref h.length) (h ++ [[.str "told", .rep dv, .bl true]]) := by
  have t := fun (h1 : Hc) => tidy_ref (h := h) (h1 := h1) (n := h.length) (Nat.le_refl _)
  have e : run G sub WH 9 45 [.str wd, .ref n] h = .ok (.int i) h := e
  rw [rn, un f46 _ _ _ rfl (of_decide_eq_true rfl)]
  simp [F_law_raised, Ss.ev, S.ev, Hs.ev, E.ev, Es.ev, T.ev, Pt.put, Pts.put, Pts.len, Es.len, Oe.ev, It.ev, bind_ok, bind_err, bind_bad, th_ok, th_err, th_bad, nxth, retth, errth, badth, noerr_ok, fin_nx, fin_ret, fin_err, tidy_same, tidyX_same, List.getElem?_cons_zero, List.getElem?_cons_succ, List.set_cons_zero, List.set_cons_succ, e, hd, line3, t]
theorem due_run (d : Nat) {nm : Str} {c : C} {dv : PyData} (hd : bi .repr [c] h = .ok (.rep dv) h) : rn (d + 1) 47 [.str nm, c] h = .ok (.ref h.length) (h ++ [[.str nm, .rep dv, .bl true]]) := by
  have t := fun (h1 : Hc) => tidy_ref (h := h) (h1 := h1) (n := h.length) (Nat.le_refl _)
  rw [rn, un f47 _ _ _ rfl (of_decide_eq_true rfl)]
  simp [F_law_due, Ss.ev, S.ev, Hs.ev, E.ev, Es.ev, T.ev, Pt.put, Pts.put, Pts.len, Es.len, Oe.ev, It.ev, bind_ok, bind_err, bind_bad, th_ok, th_err, th_bad, nxth, retth, errth, badth, noerr_ok, fin_nx, fin_ret, fin_err, tidy_same, tidyX_same, List.getElem?_cons_zero, List.getElem?_cons_succ, List.set_cons_zero, List.set_cons_succ, hd, line3, t]
end K16
set_option linter.all false
set_option autoImplicit false
set_option maxRecDepth 100000
set_option maxHeartbeats 16000000
namespace K16
open Sh PySem
variable {h : Hc}
/-! ### rows compared -/
theorem eq_rows {hh : Hc} {a b : Nat} {L1 L2 : List C} (ha : hh[a]? = some L1) (hb : hh[b]? = some L2) (hl : L1.length = L2.length) {n : Nat} (hL : both (ceq hh n) L1 L2 = some true) : ceq hh (n + 1) (.ref a) (.ref b) = some true := by
  show (match hh[a]?, hh[b]? with
      | some xs, some ys => if xs.length = ys.length then both (ceq hh n) xs ys else eqFar hh (n + 1) (.ref a) (.ref b)
      | _, _ => none) = _
  rw [ha, hb]
  show (if L1.length = L2.length then both (ceq hh n) L1 L2 else _) = _
  rw [if_pos hl, hL]
theorem eq_op {hh : Hc} {x y : C} (e : ceq hh 40 x y = some true) : cmpop .eq x y hh = .ok (.bl true) hh := by
  show (match ceq hh 40 x y with
      | some b => R.ok (C.bl b) hh
      | none => .bad) = _
  rw [e]
theorem ne_op {hh : Hc} {x y : C} (e : ceq hh 40 x y = some true) : cmpop .ne x y hh = .ok (.bl false) hh := by
  show (match ceq hh 40 x y with
      | some b => R.ok (C.bl (!b)) hh
      | none => .bad) = _
  rw [e]; rfl
/-- a row told: a word, what repr gives, True -/
def Tri (T : List C) : Prop := ∃ (x : Str) (c : C), T = [.str x, c, .bl true] ∧ PyData.strOk x = true ∧ ((∃ d : PyData, c = .rep d ∧ d.hasDict = false) ∨ ∃ y : Str, c = .str y ∧ PyData.strOk y = true)
theorem Tri.eq {T : List C} (t : Tri T) {hh : Hc} {a b n : Nat} (ha : hh[a]? = some T) (hb : hh[b]? = some T) : ceq hh (n + 2) (.ref a) (.ref b) = some true := by
  refine eq_rows ha hb rfl ?_
  obtain ⟨x, c, rfl, hx, hc⟩ := t
  have e1 := ceq_str hh n x hx
  have e3 := ceq_bl hh n true
  have e2 : ceq hh (n + 1) c c = some true := by
    rcases hc with ⟨d, rfl, hd⟩ | ⟨y, rfl, hy⟩
    · exact ceq_rep hh n d hd
    · exact ceq_str hh n y hy
  simp [both, e1, e2, e3]
theorem VD.tri {p : Nat} {c : C} {dv : PyData} (v : VD p h c dv) {x : Str} (hx : PyData.strOk x = true) : Tri [.str x, .rep dv, .bl true] := by
  have e := v.1
  unfold okD at e
  exact ⟨x, _, rfl, hx, .inl ⟨dv, rfl, by simpa using (Bool.and_eq_true_iff.mp e).2⟩⟩
end K16
set_option linter.all false
set_option autoImplicit false
set_option maxRecDepth 100000
set_option maxHeartbeats 16000000
namespace K16
open Sh PySem
variable {h : Hc}
theorem tidyE {p : Nat} {h h' : Hc} (hp : p < h.length) (s : Stp p h h') (c : C) (hc : c.under h.length = true) : ∃ h2, tidy h.length c h' = .ok c h2 ∧ PotAt h2 p ∧ ClH h2 := by
  unfold tidy
  rw [hc, Bool.true_and]
  by_cases z : (h'.take h.length).all (C.unders h.length) = true
  · rw [if_pos z]
    refine ⟨_, rfl, ?_, ?_⟩
    · obtain ⟨L, e, q⟩ := s.pot
      exact ⟨L, by rw [List.getElem?_take, if_pos hp]; exact e, q⟩
    · unfold ClH
      rw [List.length_take, Nat.min_eq_left s.len]
      exact z
  · rw [if_neg z]
    exact ⟨_, rfl, s.pot, s.cl⟩
/-- a value that stays, with what repr tells -/
structure Val (p : Nat) (h : Hc) (c : C) (dv : PyData) : Prop where
  vd : VD p h c dv
  un : ∀ n, h.length ≤ n → C.under n c = true
theorem Val.step {p : Nat} {h h' : Hc} {c : C} {dv : PyData} (v : Val p h c dv) (s : Stp p h h') : Val p h' c dv := ⟨v.vd.step s, fun n hn => v.un n (Nat.le_trans s.len hn)⟩
theorem Val.pure {p : Nat} {h : Hc} {c : C} {dv : PyData} (k : okD dv = true) (e : ∀ h', datum h' c = some dv) (u : ∀ n, C.under n c = true) : Val p h c dv := ⟨.pure k e, fun n _ => u n⟩
theorem Val.l12 {p n : Nat} {h : Hc} (hn : h[n]? = some [.int 1, .int 2]) (hp : n ≠ p) : Val p h (.ref n) (.list [.int 1, .int 2]) := ⟨vd12 hn hp, fun k hk => decide_eq_true (Nat.lt_of_lt_of_le (List.getElem?_eq_some_iff.mp hn).1 hk)⟩
theorem Val.l1 {p n : Nat} {h : Hc} (hn : h[n]? = some [.int 1]) (hp : n ≠ p) : Val p h (.ref n) (.list [.int 1]) := ⟨vd1 hn hp, fun k hk => decide_eq_true (Nat.lt_of_lt_of_le (List.getElem?_eq_some_iff.mp hn).1 hk)⟩
theorem Val.unders1 {p : Nat} {h : Hc} {c : C} {dv : PyData} (v : Val p h c dv) (n : Nat) (hn : h.length ≤ n) : C.under n c = true := v.un n hn
theorem un_int (n : Nat) (i : Int) : C.under n (.int i) = true := rfl
/-- a call of _law_raised from stores behind h -/
def Call (p : Nat) (h0 : Hc) (wd : Str) (vals T : List C) : Prop := ∀ h, Stp p h0 h → ∃ i h', run G sub WH 10 46 [.str wd, .ref h.length] (h ++ [vals]) = .ok (.ref i) h' ∧ Stp p h h' ∧ h'[i]? = some T ∧ h.length < i
theorem Call.step {p : Nat} {h h' : Hc} {wd : Str} {vals T : List C} (c : Call p h wd vals T) (s : Stp p h h') : Call p h' wd vals T := fun h2 s2 => c h2 (s.trans s2)
theorem call_of {p : Nat} {h0 : Hc} {wd : Str} {vals T : List C} (hu : ∀ n, h0.length ≤ n → C.unders n vals = true) (tu : ∀ n, C.unders n T = true)
    (e : ∀ hh n, Stp p h0 hh → hh[n]? = some vals → rn 10 46 [.str wd, .ref n] hh = .ok (.ref hh.length) (hh ++ [T])) : Call p h0 wd vals T := fun h s => by
  have s1 : Stp p h (h ++ [vals]) := (Stp.refl s.pot s.cl).push (hu _ (Nat.le_succ_of_le s.len))
  refine ⟨(h ++ [vals]).length, h ++ [vals] ++ [T], e _ _ (s.trans s1) (last_get _ _), s1.push (tu _), last_get _ _, by simp⟩
theorem call_err {p : Nat} {h0 : Hc} {wd : Str} {vals : List C} {k : Nat} {c : C} {dv : PyData} (hu : ∀ n, h0.length ≤ n → C.unders n vals = true) (hk : k < 4) (v : VD p h0 c dv)
    (e : ∀ hh n, Stp p h0 hh → hh[n]? = some vals → rn 9 45 [.str wd, .ref n] hh = .err k [c] hh) : Call p h0 wd vals [.str (nameOf k), .rep dv, .bl true] :=
  call_of hu (fun _ => rfl) fun hh n s hn => ra_err hk (e hh n s hn) ((v.step s).now s.pot s.cl)
theorem so_name (k : Nat) (hk : k < 4) : PyData.strOk (nameOf k) = true := by
  match k, hk with
  | 0, _ => decide +kernel
  | 1, _ => decide +kernel
  | 2, _ => decide +kernel
  | 3, _ => decide +kernel
theorem line1 : (1 : Nat) ≤ lineN := by decide
theorem line2 : (2 : Nat) ≤ lineN := by decide
theorem line4 : (4 : Nat) ≤ lineN := by decide
theorem line5 : (5 : Nat) ≤ lineN := by decide
/-! ### the wrong values -/
def WP (n : Nat) : List C := [.ref n, .tup [.int 1, .int 0], .tup [.int 0], .tup [.bl true, .int 1], .tup [.str "1", .int 1], .tup [.int 1, .non], .non, .int 5, .str "1 1", .tup (List.replicate 14 (.int 1)), .tup [.int 1000001, .int 1], .tup [.int 1, .int (-1000001)], .tup [.tup [.int 1, .int 2], .int 1], .tup [.int 1, .bl false]]
def WR (n : Nat) : List C := [.tup [.int 2, .int 4], .tup [.int 1, .int 0], .tup [.int 1, .int (-1)], .tup [.int 0, .int 2], .ref n, .tup [.int 1], .tup [.int 1, .int 2, .int 3], .int 1, .non, .tup [.bl true, .int 1], .tup [.int 1, .bl true], .tup [.str "1", .int 2], .tup [.int (-3), .int (-2)]]
theorem wp_run (d : Nat) (h : Hc) : rn (d + 1) 48 [] h = .ok (.ref (h.length + 1)) (h ++ [[.int 1, .int 2]] ++ [WP h.length]) := by
  have t := fun (h1 : Hc) => tidy_ref (h := h) (h1 := h1) (n := h.length + 1) (Nat.le_succ _)
  have l14 : (14 : Nat) ≤ lineN := by decide
  have m14 : ∀ hh : Hc, binop .mul (.tup [.int 1]) (.int 14) hh = .ok (.tup (List.replicate 14 (.int 1))) hh := fun _ => rfl
  rw [rn, un f48 _ _ _ rfl (of_decide_eq_true rfl)]
  simp [F_law_wrong_polynomials, Ss.ev, S.ev, Hs.ev, E.ev, Es.ev, T.ev, Pt.put, Pts.put, Pts.len, Es.len, Oe.ev, It.ev, bind_ok, bind_err, bind_bad, th_ok, th_err, th_bad, nxth, retth, errth, badth, noerr_ok, fin_nx, fin_ret, fin_err, tidy_same, tidyX_same, List.getElem?_cons_zero, List.getElem?_cons_succ, List.set_cons_zero, List.set_cons_succ, line1, line2, l14, m14, pow6, add_int, sub_int, t, WP]
theorem wr_run (d : Nat) (h : Hc) : rn (d + 1) 49 [] h = .ok (.ref (h.length + 1)) (h ++ [[.int 1, .int 2]] ++ [WR h.length]) := by
  have t := fun (h1 : Hc) => tidy_ref (h := h) (h1 := h1) (n := h.length + 1) (Nat.le_succ _)
  have l13 : (13 : Nat) ≤ lineN := by decide
  rw [rn, un f49 _ _ _ rfl (of_decide_eq_true rfl)]
  simp [F_law_wrong_ratios, Ss.ev, S.ev, Hs.ev, E.ev, Es.ev, T.ev, Pt.put, Pts.put, Pts.len, Es.len, Oe.ev, It.ev, bind_ok, bind_err, bind_bad, th_ok, th_err, th_bad, nxth, retth, errth, badth, noerr_ok, fin_nx, fin_ret, fin_err, tidy_same, tidyX_same, List.getElem?_cons_zero, List.getElem?_cons_succ, List.set_cons_zero, List.set_cons_succ, line1, line2, line3, l13, t, WR]
theorem wp_val {p m i : Nat} {c : C} {h0 : Hc} (hm : h0[m]? = some [.int 1, .int 2]) (hp : m ≠ p) (hi : (WP m)[i]? = some c) : isPoly c = false ∧ ∃ dv, Val p h0 c dv := by
  match i, hi with
  | 0, hi => cases hi; exact ⟨rfl, _, .l12 hm hp⟩
  | 1, hi => cases hi; exact ⟨by decide +kernel, .tuple [.int 1, .int 0], .pure (by decide +kernel) (fun _ => by simp [datum, toD]) fun _ => rfl⟩
  | 2, hi => cases hi; exact ⟨by decide +kernel, .tuple [.int 0], .pure (by decide +kernel) (fun _ => by simp [datum, toD]) fun _ => rfl⟩
  | 3, hi => cases hi; exact ⟨by decide +kernel, .tuple [.bool true, .int 1], .pure (by decide +kernel) (fun _ => by simp [datum, toD]) fun _ => rfl⟩
  | 4, hi => cases hi; exact ⟨by decide +kernel, .tuple [.str "1", .int 1], .pure (by decide +kernel) (fun _ => by simp [datum, toD]) fun _ => rfl⟩
  | 5, hi => cases hi; exact ⟨by decide +kernel, .tuple [.int 1, .none], .pure (by decide +kernel) (fun _ => by simp [datum, toD]) fun _ => rfl⟩
  | 6, hi => cases hi; exact ⟨by decide +kernel, .none, .pure (by decide +kernel) (fun _ => by simp [datum, toD]) fun _ => rfl⟩
  | 7, hi => cases hi; exact ⟨by decide +kernel, .int 5, .pure (by decide +kernel) (fun _ => by simp [datum, toD]) fun _ => rfl⟩
  | 8, hi => cases hi; exact ⟨by decide +kernel, .str "1 1", .pure (by decide +kernel) (fun _ => by simp [datum, toD]) fun _ => rfl⟩
  | 9, hi => cases hi; exact ⟨by decide +kernel, .tuple (List.replicate 14 (.int 1)), .pure (by decide +kernel) (fun _ => by simp [datum, toD, List.replicate]) fun _ => rfl⟩
  | 10, hi => cases hi; exact ⟨by decide +kernel, .tuple [.int 1000001, .int 1], .pure (by decide +kernel) (fun _ => by simp [datum, toD]) fun _ => rfl⟩
  | 11, hi => cases hi; exact ⟨by decide +kernel, .tuple [.int 1, .int (-1000001)], .pure (by decide +kernel) (fun _ => by simp [datum, toD]) fun _ => rfl⟩
  | 12, hi => cases hi; exact ⟨by decide +kernel, .tuple [.tuple [.int 1, .int 2], .int 1], .pure (by decide +kernel) (fun _ => by simp [datum, toD]) fun _ => rfl⟩
  | 13, hi => cases hi; exact ⟨by decide +kernel, .tuple [.int 1, .bool false], .pure (by decide +kernel) (fun _ => by simp [datum, toD]) fun _ => rfl⟩
  | n + 14, hi => cases hi
theorem wr_val {p m i : Nat} {c : C} {h0 : Hc} (hm : h0[m]? = some [.int 1, .int 2]) (hp : m ≠ p) (hi : (WR m)[i]? = some c) : isRat c = false ∧ ∃ dv, Val p h0 c dv := by
  match i, hi with
  | 0, hi => cases hi; exact ⟨by decide +kernel, .tuple [.int 2, .int 4], .pure (by decide +kernel) (fun _ => by simp [datum, toD]) fun _ => rfl⟩
  | 1, hi => cases hi; exact ⟨by decide +kernel, .tuple [.int 1, .int 0], .pure (by decide +kernel) (fun _ => by simp [datum, toD]) fun _ => rfl⟩
  | 2, hi => cases hi; exact ⟨by decide +kernel, .tuple [.int 1, .int (-1)], .pure (by decide +kernel) (fun _ => by simp [datum, toD]) fun _ => rfl⟩
  | 3, hi => cases hi; exact ⟨by decide +kernel, .tuple [.int 0, .int 2], .pure (by decide +kernel) (fun _ => by simp [datum, toD]) fun _ => rfl⟩
  | 4, hi => cases hi; exact ⟨rfl, _, .l12 hm hp⟩
  | 5, hi => cases hi; exact ⟨by decide +kernel, .tuple [.int 1], .pure (by decide +kernel) (fun _ => by simp [datum, toD]) fun _ => rfl⟩
  | 6, hi => cases hi; exact ⟨by decide +kernel, .tuple [.int 1, .int 2, .int 3], .pure (by decide +kernel) (fun _ => by simp [datum, toD]) fun _ => rfl⟩
  | 7, hi => cases hi; exact ⟨by decide +kernel, .int 1, .pure (by decide +kernel) (fun _ => by simp [datum, toD]) fun _ => rfl⟩
  | 8, hi => cases hi; exact ⟨by decide +kernel, .none, .pure (by decide +kernel) (fun _ => by simp [datum, toD]) fun _ => rfl⟩
  | 9, hi => cases hi; exact ⟨by decide +kernel, .tuple [.bool true, .int 1], .pure (by decide +kernel) (fun _ => by simp [datum, toD]) fun _ => rfl⟩
  | 10, hi => cases hi; exact ⟨by decide +kernel, .tuple [.int 1, .bool true], .pure (by decide +kernel) (fun _ => by simp [datum, toD]) fun _ => rfl⟩
  | 11, hi => cases hi; exact ⟨by decide +kernel, .tuple [.str "1", .int 2], .pure (by decide +kernel) (fun _ => by simp [datum, toD]) fun _ => rfl⟩
  | 12, hi => cases hi; exact ⟨by decide +kernel, .tuple [.int (-3), .int (-2)], .pure (by decide +kernel) (fun _ => by simp [datum, toD]) fun _ => rfl⟩
  | n + 13, hi => cases hi
/-- a wrong polynomial is drawn -/
theorem draw_wp (d : Nat) {p : Nat} (hp : PotAt h p) (cl : ClH h) : ∃ c dv h1 h', run G sub WH (d + 2) 48 [] h = .ok (.ref (h.length + 1)) h1 ∧ run G sub WH (d + 2) 44 [.ref p, .ref (h.length + 1)] h1 = .ok c h' ∧ Stp p h h' ∧ isPoly c = false ∧ Val p h' c dv := by
  have hl := hp.lt
  have s1 : Stp p h (h ++ [[.int 1, .int 2]] ++ [WP h.length]) := ((Stp.refl hp cl).push rfl).push (by
    show C.unders _ (WP h.length) = true
    unfold WP
    simp [C.unders, C.under]
    omega)
  obtain ⟨i, c, h', a1, a2, a3⟩ := pick_run d (h := h ++ [[.int 1, .int 2]] ++ [WP h.length]) (p := p) (q := h.length + 1) (xs := WP h.length) s1.pot (by simp) (by omega) (by simp [WP]) (by simp [WP])
  have s2 := s1.dr a2
  obtain ⟨b1, dv, b2⟩ := wp_val (p := p) (h0 := h') (m := h.length) (by rw [a2.get (by omega)]; simp) (by omega) a1
  exact ⟨c, dv, _, h', wp_run (d + 1) h, a3, s2, b1, b2⟩
theorem draw_wr (d : Nat) {p : Nat} (hp : PotAt h p) (cl : ClH h) : ∃ c dv h1 h', run G sub WH (d + 2) 49 [] h = .ok (.ref (h.length + 1)) h1 ∧ run G sub WH (d + 2) 44 [.ref p, .ref (h.length + 1)] h1 = .ok c h' ∧ Stp p h h' ∧ isRat c = false ∧ Val p h' c dv := by
  have hl := hp.lt
  have s1 : Stp p h (h ++ [[.int 1, .int 2]] ++ [WR h.length]) := ((Stp.refl hp cl).push rfl).push (by
    show C.unders _ (WR h.length) = true
    unfold WR
    simp [C.unders, C.under]
    omega)
  obtain ⟨i, c, h', a1, a2, a3⟩ := pick_run d (h := h ++ [[.int 1, .int 2]] ++ [WR h.length]) (p := p) (q := h.length + 1) (xs := WR h.length) s1.pot (by simp) (by omega) (by simp [WR]) (by simp [WR])
  have s2 := s1.dr a2
  obtain ⟨b1, dv, b2⟩ := wr_val (p := p) (h0 := h') (m := h.length) (by rw [a2.get (by omega)]; simp) (by omega) a1
  exact ⟨c, dv, _, h', wr_run (d + 1) h, a3, s2, b1, b2⟩
theorem due_call (d : Nat) {p : Nat} {nm : Str} {c : C} {dv : PyData} (v : Val p h c dv) (hp : PotAt h p) (cl : ClH h) : run G sub WH (d + 1) 47 [.str nm, c] h = .ok (.ref h.length) (h ++ [[.str nm, .rep dv, .bl true]]) := due_run d (v.vd.now hp cl)
theorem mul_ref {a : Nat} {xs : List C} (k : Nat) (e : h[a]? = some xs) (hk : xs.length * k ≤ 1000) (hk2 : k ≤ 1000) : binop .mul (.ref a) (.int (k : Int)) h = .ok (.ref h.length) (h ++ [(List.replicate k xs).flatten]) := by
  show (match h[a]? with
    | some xs => if ((k : Int) < 0 ∨ lineN < xs.length * (k : Int).toNat ∨ 1000000000 ≤ (k : Int)) then (R.bad : R C) else R.ok (C.ref h.length) (h ++ [(List.replicate (k : Int).toNat xs).flatten])
    | _ => .bad) = _
  rw [e]
  show (if ((k : Int) < 0 ∨ lineN < xs.length * (k : Int).toNat ∨ 1000000000 ≤ (k : Int)) then (R.bad : R C) else R.ok (C.ref h.length) (h ++ [(List.replicate (k : Int).toNat xs).flatten])) = _
  rw [if_neg ?_]
  · rfl
  · have : (1000 : Nat) < lineN := by decide
    have e2 : (k : Int).toNat = k := rfl
    rw [e2]
    omega
theorem both_tri {hh : Hc} {T : List C} (t : Tri T) : ∀ (L1 L2 : List Nat), L1.length = L2.length → (∀ i ∈ L1, hh[i]? = some T) → (∀ i ∈ L2, hh[i]? = some T) → both (ceq hh 39) (L1.map C.ref) (L2.map C.ref) = some true
  | [], [], _, _, _ => rfl
  | a :: x, b :: y, hl, h1, h2 => by
    have e := t.eq (n := 37) (h1 a List.mem_cons_self) (h2 b List.mem_cons_self)
    have r := both_tri t x y (by simpa using hl) (fun i hi => h1 i (List.mem_cons_of_mem _ hi)) (fun i hi => h2 i (List.mem_cons_of_mem _ hi))
    show (match ceq hh 39 (.ref a) (.ref b) with
      | none => none
      | some b => match both (ceq hh 39) (x.map C.ref) (y.map C.ref) with
        | none => none
        | some c => some (b && c)) = _
    rw [e, r]; rfl
  | [], _ :: _, hl, _, _ => by cases hl
  | _ :: _, [], hl, _, _ => by cases hl
end K16
set_option linter.all false
set_option autoImplicit false
set_option maxRecDepth 100000
set_option maxHeartbeats 16000000
namespace K16
open Sh PySem
variable {h : Hc}
/-! ### the first function -/
theorem poly_right {p : Nat} (hp : PotAt h p) (cl : ClH h) : ∃ h', run G sub WH 11 50 [.ref p] h = .ok (.bl true) h' ∧ PotAt h' p ∧ ClH h' := by
  have hl := hp.lt
  obtain ⟨c, dv, ha, hb, a1, a2, a3, a4, a5⟩ := draw_wp 8 hp cl
  obtain ⟨c2, dv2, hc, hd, b1, b2, b3, b4, b5⟩ := draw_wr 8 a3.pot a3.cl
  have a6 := a5.step b3
  have du := due_call 9 (nm := "InvalidPolynomial") a6 b3.pot b3.cl
  have t : Tri [.str "InvalidPolynomial", .rep dv, .bl true] := a6.vd.tri (by decide +kernel)
  have sE : Stp p hd (hd ++ [[.str "InvalidPolynomial", .rep dv, .bl true]]) := (Stp.refl b3.pot b3.cl).push rfl
  have u1 : ∀ n, hd.length ≤ n → C.under n c = true := a6.un
  have u2 : ∀ n, hd.length ≤ n → C.under n c2 = true := b5.un
  have k1 : Call p hd "signs" [c] [.str "InvalidPolynomial", .rep dv, .bl true] := call_err (k := 1) (fun n hn => by simp [C.unders, u1 n hn]) (by decide) a6.vd fun hh n s e => told_sg e (sg_bad 4 a4) (.inr ⟨_, _, rfl⟩)
  have k2 : Call p hd "real" [c] [.str "InvalidPolynomial", .rep dv, .bl true] := call_err (k := 1) (fun n hn => by simp [C.unders, u1 n hn]) (by decide) a6.vd fun hh n s e => told_re e (re_bad 4 a4) (.inr ⟨_, _, rfl⟩)
  have k3 : Call p hd "between" [c, c2, c2] [.str "InvalidPolynomial", .rep dv, .bl true] := call_err (k := 1) (fun n hn => by simp [C.unders, u1 n hn, u2 n hn]) (by decide) a6.vd fun hh n s e => told_bt e (bt_bad 4 a4) (.inr ⟨_, _, rfl⟩)
  have k4 : Call p hd "above" [c, c2] [.str "InvalidPolynomial", .rep dv, .bl true] := call_err (k := 1) (fun n hn => by simp [C.unders, u1 n hn, u2 n hn]) (by decide) a6.vd fun hh n s e => told_ab e (ab_bad 4 a4) (.inr ⟨_, _, rfl⟩)
  have k5 : Call p hd "floor" [c, .bl true, .int (-1)] [.str "InvalidPolynomial", .rep dv, .bl true] := call_err (k := 1) (fun n hn => by simp [C.unders, u1 n hn, C.under]) (by decide) a6.vd fun hh n s e => told_fl e (fl_bad 4 a4) (.inr ⟨_, _, rfl⟩)
  generalize hT : ([.str "InvalidPolynomial", .rep dv, .bl true] : List C) = TT at *
  obtain ⟨i1, h1, c1, d1, e1, g1⟩ := k1 _ sE
  have s1 := sE.trans d1
  obtain ⟨i2, h2, c2', d2, e2, g2⟩ := k2 _ s1
  have s2 := s1.trans d2
  obtain ⟨i3, h3, c3, d3, e3, g3⟩ := k3 _ s2
  have s3 := s2.trans d3
  obtain ⟨i4, h4, c4, d4, e4, g4⟩ := k4 _ s3
  have s4 := s3.trans d4
  obtain ⟨i5, h5, c5, d5, e5, g5⟩ := k5 _ s4
  have s5 := s4.trans d5
  have hdl : h.length ≤ hd.length := (a3.trans b3).len
  have le0 : hd.length + 1 = (hd ++ [TT]).length := by simp
  have l1 := d1.len; have l2 := d2.len; have l3 := d3.len; have l4 := d4.len; have l5 := d5.len
  have j1 : i1 < h1.length := (List.getElem?_eq_some_iff.mp e1).1
  have j2 : i2 < h2.length := (List.getElem?_eq_some_iff.mp e2).1
  have j3 : i3 < h3.length := (List.getElem?_eq_some_iff.mp e3).1
  have j4 : i4 < h4.length := (List.getElem?_eq_some_iff.mp e4).1
  have j5 : i5 < h5.length := (List.getElem?_eq_some_iff.mp e5).1
  let R1 : List Nat := [i1, i2, i3, i4, i5]
  let h6 := h5 ++ [R1.map C.ref]
  let h7 := h6 ++ [[C.ref hd.length]]
  let h8 := h7 ++ [(List.replicate 5 [C.ref hd.length]).flatten]
  have big : ∀ (i : Nat), i < h5.length → ∀ L, h5[i]? = some L → h8[i]? = some L := fun i hi L e => by
    show (h5 ++ [R1.map C.ref] ++ [[C.ref hd.length]] ++ [(List.replicate 5 [C.ref hd.length]).flatten])[i]? = _
    rw [List.getElem?_append_left (by simp; omega), List.getElem?_append_left (by simp; omega), List.getElem?_append_left hi]
    exact e
  have q1 := big i1 (by omega) TT (by rw [d5.keep _ (by omega) (by omega), d4.keep _ (by omega) (by omega), d3.keep _ (by omega) (by omega), d2.keep _ (by omega) (by omega)]; exact e1)
  have q2 := big i2 (by omega) TT (by rw [d5.keep _ (by omega) (by omega), d4.keep _ (by omega) (by omega), d3.keep _ (by omega) (by omega)]; exact e2)
  have q3 := big i3 (by omega) TT (by rw [d5.keep _ (by omega) (by omega), d4.keep _ (by omega) (by omega)]; exact e3)
  have q4 := big i4 (by omega) TT (by rw [d5.keep _ (by omega) (by omega)]; exact e4)
  have q5 := big i5 (by omega) TT e5
  have q0 := big hd.length (by omega) TT (by rw [d5.keep _ (by omega) (by omega), d4.keep _ (by omega) (by omega), d3.keep _ (by omega) (by omega), d2.keep _ (by omega) (by omega), d1.keep _ (by omega) (by omega)]; exact last_get _ _)
  have m6 : h7[h6.length]? = some [C.ref hd.length] := last_get _ _
  have mm := mul_ref 5 m6 (by simp) (by decide)
  have cmp : cmpop .eq (.ref h5.length) (.ref h7.length) h8 = .ok (.bl true) h8 := eq_op (eq_rows (L1 := R1.map C.ref) (L2 := [hd.length, hd.length, hd.length, hd.length, hd.length].map C.ref) (by
      show (h5 ++ [R1.map C.ref] ++ [[C.ref hd.length]] ++ [(List.replicate 5 [C.ref hd.length]).flatten])[h5.length]? = _
      simp) (last_get _ _) rfl (both_tri t _ _ rfl (by
        intro i hi
        simp only [R1, List.mem_cons, List.not_mem_nil, or_false] at hi
        rcases hi with rfl | rfl | rfl | rfl | rfl <;> assumption) (by
        intro i hi
        have : i = hd.length := by simpa using hi
        rw [this]; exact q0)))
  have sAll : Stp p h h8 := (((((a3.trans b3).trans s5).push (xs := R1.map C.ref) (by
      show C.unders _ [C.ref i1, C.ref i2, C.ref i3, C.ref i4, C.ref i5] = true
      simp [C.unders, C.under]; omega)).push (xs := [C.ref hd.length]) (by
      simp [C.unders, C.under]; omega))).push (xs := (List.replicate 5 [C.ref hd.length]).flatten) (by
      show C.unders _ [C.ref hd.length, C.ref hd.length, C.ref hd.length, C.ref hd.length, C.ref hd.length] = true
      simp [C.unders, C.under]; omega)
  obtain ⟨hz, z1, z2, z3⟩ := tidyE hl sAll (.bl true) rfl
  refine ⟨hz, ?_, z2, z3⟩
  rw [un f50 _ _ _ rfl (of_decide_eq_true rfl)]
  have mm2 : binop .mul (C.ref (h5 ++ [[C.ref i1, C.ref i2, C.ref i3, C.ref i4, C.ref i5]]).length) (.int 5) (h5 ++ [[C.ref i1, C.ref i2, C.ref i3, C.ref i4, C.ref i5]] ++ [[C.ref hd.length]]) = .ok (.ref h7.length) h8 := mm
  have z1 : tidy h.length (.bl true) h8 = .ok (.bl true) hz := z1
  have a1 : run G sub WH 10 48 [] h = _ := a1
  have a2 : run G sub WH 10 44 [C.ref p, C.ref (h.length + 1)] ha = _ := a2
  have b1 : run G sub WH 10 49 [] hb = _ := b1
  have b2 : run G sub WH 10 44 [C.ref p, C.ref (hb.length + 1)] hc = _ := b2
  have du : run G sub WH 10 47 [.str "InvalidPolynomial", c] hd = _ := du
  simp only [F_law_polynomials_right, List.map_cons, List.map_nil, List.replicate, List.cons_append, List.nil_append, Nat.reduceSub, Ss.ev, S.ev, Hs.ev, E.ev, Es.ev, T.ev, Pt.put, Pts.put, Pts.len, Es.len, Oe.ev, It.ev, bind_ok, bind_err, bind_bad, th_ok, th_err, th_bad, nxth, retth, errth, badth, noerr_ok, fin_nx, fin_ret, fin_err, tidy_same, tidyX_same, List.getElem?_cons_zero, List.getElem?_cons_succ, List.set_cons_zero, List.set_cons_succ, List.length_cons, List.length_nil, Nat.reduceAdd, a1, a2, b1, b2, du, line1, line2, line3, line5, if_true, c1, c2', c3, c4, c5]
  rw [mm2]
  simp only [bind_ok, cmp, th_ok, retth, fin_ret, z1]
end K16
set_option linter.all false
set_option autoImplicit false
set_option maxRecDepth 100000
set_option maxHeartbeats 16000000
namespace K16
open Sh PySem
variable {h : Hc}
theorem ga {h t : Hc} {i : Nat} {L : List C} (e : h[i]? = some L) : (h ++ t)[i]? = some L := by
  rw [List.getElem?_append_left (List.getElem?_eq_some_iff.mp e).1]; exact e
theorem R12x : isRat (.tup [.int 1, .int 2]) = true := by decide +kernel
theorem ratios_body {p : Nat} {x c1 c2 y1 : C} {dv1 dv2 : PyData} {z4 z5 z6 : Option C} (hx : isPoly x = true) (ux : ∀ n, C.under n x = true) (r1 : isRat c1 = false) (r2 : isRat c2 = false) {hd hh : Hc} (v1 : Val p hd c1 dv1) (v2 : Val p hd c2 dv2) (s : Stp p hd hh) :
    ∃ z5' z6' h', Ss.ev (run G sub WH 10) sub WH (L_law_ratios_right_2 46 47) none [some (.ref p), some y1, some c1, some c2, some x, z5, z6] hh = .nx [some (.ref p), some y1, some c1, some c2, some x, z5', z6'] h' ∧ Stp p hd h' := by
  have u1 : ∀ n, hd.length ≤ n → C.under n c1 = true := v1.un
  have u2 : ∀ n, hd.length ≤ n → C.under n c2 = true := v2.un
  have hpl := s.pot.lt
  have k1 : Call p hd "between" [x, c1, c2] [.str (nameOf 0), .rep dv1, .bl true] := call_err (k := 0) (fun n hn => by simp [C.unders, ux, u1 n hn, u2 n hn]) (by decide) v1.vd fun hh n s e => told_bt e (bt_r1 4 hx r1) (.inr ⟨_, _, rfl⟩)
  have k2 : Call p hd "between" [x, .tup [.int 1, .int 2], c2] [.str (nameOf 0), .rep dv2, .bl true] := call_err (k := 0) (fun n hn => by simp [C.unders, C.under, ux, u2 n hn]) (by decide) v2.vd fun hh n s e => told_bt e (bt_r2 4 hx R12x r2) (.inr ⟨_, _, rfl⟩)
  have k3 : Call p hd "above" [x, c2] [.str (nameOf 0), .rep dv2, .bl true] := call_err (k := 0) (fun n hn => by simp [C.unders, ux, u2 n hn]) (by decide) v2.vd fun hh n s e => told_ab e (ab_r 4 hx r2) (.inr ⟨_, _, rfl⟩)
  have t1 : Tri [.str (nameOf 0), .rep dv1, .bl true] := v1.vd.tri (so_name 0 (by decide))
  have t2 : Tri [.str (nameOf 0), .rep dv2, .bl true] := v2.vd.tri (so_name 0 (by decide))
  have du1 := fun (h : Hc) (s : Stp p hd h) => due_call 9 (nm := nameOf 0) (v1.step s) s.pot s.cl
  have du2 := fun (h : Hc) (s : Stp p hd h) => due_call 9 (nm := nameOf 0) (v2.step s) s.pot s.cl
  have nu : ∀ n (dv : PyData), C.unders n [.str (nameOf 0), .rep dv, .bl true] = true := fun _ _ => rfl
  rw [show (nameOf 0 : Str) = "InvalidRatio" from rfl] at *
  generalize hT1 : ([.str "InvalidRatio", .rep dv1, .bl true] : List C) = T1 at *
  generalize hT2 : ([.str "InvalidRatio", .rep dv2, .bl true] : List C) = T2 at *
  obtain ⟨i1, h1, b1, d1, e1, g1⟩ := k1 _ s
  have s1 := s.trans d1
  obtain ⟨i2, h2, b2, d2, e2, g2⟩ := k2 _ s1
  have s2 := s1.trans d2
  obtain ⟨i3, h3, b3, d3, e3, g3⟩ := k3 _ s2
  have s3 := s2.trans d3
  have l1 := d1.len; have l2 := d2.len; have l3 := d3.len
  have j1 : i1 < h1.length := (List.getElem?_eq_some_iff.mp e1).1
  have j2 : i2 < h2.length := (List.getElem?_eq_some_iff.mp e2).1
  have j3 : i3 < h3.length := (List.getElem?_eq_some_iff.mp e3).1
  have f1 : h3[i1]? = some T1 := by rw [d3.keep _ (by omega) (by omega), d2.keep _ (by omega) (by omega)]; exact e1
  have f2 : h3[i2]? = some T2 := by rw [d3.keep _ (by omega) (by omega)]; exact e2
  have s4 : Stp p hd (h3 ++ [[C.ref i1, C.ref i2, C.ref i3]]) := s3.push (by simp [C.unders, C.under]; omega)
  have n1 : C.unders ((h3 ++ [[C.ref i1, C.ref i2, C.ref i3]]).length + 1) T1 = true := by rw [← hT1]; rfl
  have s5 : Stp p hd (h3 ++ [[C.ref i1, C.ref i2, C.ref i3]] ++ [T1]) := s4.push n1
  have s6 : Stp p hd (h3 ++ [[C.ref i1, C.ref i2, C.ref i3]] ++ [T1] ++ [[C.ref (h3 ++ [[C.ref i1, C.ref i2, C.ref i3]]).length]]) := s5.push (by simp [C.unders, C.under])
  have m1 := du1 _ s4
  have m2 := du2 _ s6
  generalize hA : h3 ++ [[C.ref i1, C.ref i2, C.ref i3]] = A at *
  have gA : A[h3.length]? = some [C.ref i1, C.ref i2, C.ref i3] := by rw [← hA]; exact last_get _ _
  have fA1 : A[i1]? = some T1 := by rw [← hA]; exact ga f1
  have fA2 : A[i2]? = some T2 := by rw [← hA]; exact ga f2
  have fA3 : A[i3]? = some T2 := by rw [← hA]; exact ga e3
  generalize hB : A ++ [T1] ++ [[C.ref A.length]] = B at *
  have n2 : C.unders (B.length + 1) T2 = true := by rw [← hT2]; rfl
  have s7 : Stp p hd (B ++ [T2]) := s6.push n2
  have s8 : Stp p hd (B ++ [T2] ++ [[C.ref B.length]]) := s7.push (by simp [C.unders, C.under]; omega)
  have mm := mul_ref 2 (last_get (B ++ [T2]) [C.ref B.length]) (by simp) (by decide)
  have mm : binop .mul (.ref (B ++ [T2]).length) (.int 2) (B ++ [T2] ++ [[C.ref B.length]]) = .ok (.ref (B ++ [T2] ++ [[C.ref B.length]]).length) (B ++ [T2] ++ [[C.ref B.length]] ++ [[C.ref B.length, C.ref B.length]]) := mm
  have s9 : Stp p hd (B ++ [T2] ++ [[C.ref B.length]] ++ [[C.ref B.length, C.ref B.length]]) := s8.push (by simp [C.unders, C.under]; omega)
  have qB : B[(A ++ [T1]).length]? = some [C.ref A.length] := by rw [← hB]; exact last_get _ _
  have aa := add_ref (h := B ++ [T2] ++ [[C.ref B.length]] ++ [[C.ref B.length, C.ref B.length]]) (a := (A ++ [T1]).length) (b := (B ++ [T2] ++ [[C.ref B.length]]).length) (ga (ga (ga qB))) (last_get _ _) (by simp)
  have aa : binop .add (.ref (A ++ [T1]).length) (.ref (B ++ [T2] ++ [[C.ref B.length]]).length) (B ++ [T2] ++ [[C.ref B.length]] ++ [[C.ref B.length, C.ref B.length]]) = .ok (.ref (B ++ [T2] ++ [[C.ref B.length]] ++ [[C.ref B.length, C.ref B.length]]).length) (B ++ [T2] ++ [[C.ref B.length]] ++ [[C.ref B.length, C.ref B.length]] ++ [[C.ref A.length, C.ref B.length, C.ref B.length]]) := aa
  have gt : ∀ {i : Nat} {L : List C}, A[i]? = some L → B[i]? = some L := fun e => by rw [← hB]; exact ga (ga e)
  have gz : ∀ {i : Nat} {L : List C}, B[i]? = some L → (B ++ [T2] ++ [[C.ref B.length]] ++ [[C.ref B.length, C.ref B.length]] ++ [[C.ref A.length, C.ref B.length, C.ref B.length]])[i]? = some L := fun e => ga (ga (ga (ga e)))
  have lA : B[A.length]? = some T1 := by rw [← hB]; exact ga (last_get _ _)
  have lB : (B ++ [T2] ++ [[C.ref B.length]] ++ [[C.ref B.length, C.ref B.length]] ++ [[C.ref A.length, C.ref B.length, C.ref B.length]])[B.length]? = some T2 := ga (ga (ga (last_get _ _)))
  have lAB : A.length < B.length := (List.getElem?_eq_some_iff.mp lA).1
  have cmp := ne_op (eq_rows (hh := B ++ [T2] ++ [[C.ref B.length]] ++ [[C.ref B.length, C.ref B.length]] ++ [[C.ref A.length, C.ref B.length, C.ref B.length]]) (a := h3.length) (b := (B ++ [T2] ++ [[C.ref B.length]] ++ [[C.ref B.length, C.ref B.length]]).length) (n := 39) (gz (gt gA)) (last_get _ _) rfl (by
    have q1 := t1.eq (n := 37) (gz (gt fA1)) (gz lA)
    have q2 := t2.eq (n := 37) (gz (gt fA2)) lB
    have q3 := t2.eq (n := 37) (gz (gt fA3)) lB
    simp only [both, q1, q2, q3]; rfl))
  have s10 : Stp p hd (B ++ [T2] ++ [[C.ref B.length]] ++ [[C.ref B.length, C.ref B.length]] ++ [[C.ref A.length, C.ref B.length, C.ref B.length]]) := s9.push (by simp [C.unders, C.under]; omega)
  refine ⟨some (.ref h3.length), some (.ref (B ++ [T2] ++ [[C.ref B.length]] ++ [[C.ref B.length, C.ref B.length]]).length), _, ?_, s10⟩
  have m1 : run G sub WH 10 47 [.str "InvalidRatio", c1] A = _ := m1
  have m2 : run G sub WH 10 47 [.str "InvalidRatio", c2] B = _ := m2
  simp only [L_law_ratios_right_2, Ss.ev, S.ev, Hs.ev, E.ev, Es.ev, T.ev, Pt.put, Pts.put, Pts.len, Es.len, Oe.ev, It.ev, bind_ok, bind_err, bind_bad, th_ok, th_err, th_bad, nxth, retth, errth, badth, noerr_ok, fin_nx, fin_ret, fin_err, tidy_same, tidyX_same, List.getElem?_cons_zero, List.getElem?_cons_succ, List.set_cons_zero, List.set_cons_succ, List.length_cons, List.length_nil, Nat.reduceAdd, line1, line2, line3, if_true, b1, b2, b3, hA, m1, hB, m2, mm, aa, cmp, Bool.false_eq_true, if_false]
theorem ratios_right {p : Nat} {P : List Int} (hP : isPoly (tZ P) = true) (hp : PotAt h p) (cl : ClH h) : ∃ h', run G sub WH 11 51 [.ref p, tZ P] h = .ok (.bl true) h' ∧ PotAt h' p ∧ ClH h' := by
  have hl := hp.lt
  obtain ⟨c1, dv1, ha, hb, a1, a2, a3, a4, a5⟩ := draw_wr 8 hp cl
  obtain ⟨c2, dv2, hc, hd, b1, b2, b3, b4, b5⟩ := draw_wr 8 a3.pot a3.cl
  have a6 := a5.step b3
  have s0 := a3.trans b3
  have uP : ∀ n, C.under n (tZ P) = true := fun n => by
    show C.unders n (iZ P) = true
    exact iZ_unders _ _
  let els : List C := [tZ P, .tup []]
  obtain ⟨sl', h', c3, x4, x5, x6, c4, c5⟩ := forF_gen (it := .tre els) (n := 2) (el := fun i => gC els i) (g := Pt.put (run G sub WH 10) sub WH none P_law_ratios_right_1) (b := Ss.ev (run G sub WH 10) sub WH (L_law_ratios_right_2 46 47) none)
    (fun i sl hh => ∃ x4 x5 x6, sl = [some (.ref p), some (tZ P), some c1, some c2, x4, x5, x6] ∧ Stp p hd hh)
    (fun i sl hh _ _ => at_treC els i hh)
    (fun i sl hh ⟨x4, x5, x6, e1, e2⟩ hi => by
      subst e1
      have key : ∀ x, isPoly x = true → (∀ n, C.under n x = true) → ∃ sl1 h1 sl2 h2, Pt.put (run G sub WH 10) sub WH none P_law_ratios_right_1 x [some (.ref p), some (tZ P), some c1, some c2, x4, x5, x6] hh = .ok sl1 h1 ∧ (Ss.ev (run G sub WH 10) sub WH (L_law_ratios_right_2 46 47) none sl1 h1 = .nx sl2 h2 ∨ Ss.ev (run G sub WH 10) sub WH (L_law_ratios_right_2 46 47) none sl1 h1 = .ct sl2 h2) ∧ ∃ x4 x5 x6, sl2 = [some (.ref p), some (tZ P), some c1, some c2, x4, x5, x6] ∧ Stp p hd h2 := fun x hx ux => by
        obtain ⟨z5, z6, h2, q1, q2⟩ := ratios_body (y1 := tZ P) (z4 := x4) (z5 := x5) (z6 := x6) hx ux a4 b4 a6 b5 e2
        exact ⟨_, _, _, _, rfl, .inl q1, _, _, _, rfl, q2⟩
      match i, hi with
      | 0, _ => exact key _ hP uP
      | 1, _ => exact key (.tup []) rfl fun _ => rfl) WH 0 [some (.ref p), some (tZ P), some c1, some c2, none, none, none] hd ⟨_, _, _, rfl, .refl b3.pot b3.cl⟩ (by decide) (by have := hWH; omega)
  obtain ⟨hz, z1, z2, z3⟩ := tidyE hl (s0.trans c5) (.bl true) rfl
  refine ⟨hz, ?_, z2, z3⟩
  rw [un f51 _ _ _ rfl (of_decide_eq_true rfl)]
  have a1 : run G sub WH 10 49 [] h = _ := a1
  have a2 : run G sub WH 10 44 [C.ref p, C.ref (h.length + 1)] ha = _ := a2
  have b1 : run G sub WH 10 49 [] hb = _ := b1
  have b2 : run G sub WH 10 44 [C.ref p, C.ref (hb.length + 1)] hc = _ := b2
  have c3 : forF (ItV.tre [tZ P, .tup []]) (Pt.put (run G sub WH 10) sub WH none P_law_ratios_right_1) (Ss.ev (run G sub WH 10) sub WH (L_law_ratios_right_2 46 47) none) WH 0 [some (.ref p), some (tZ P), some c1, some c2, none, none, none] hd = .nx sl' h' := c3
  have l0 : ([] : List C).length ≤ lineN := by decide
  simp only [F_law_ratios_right, List.map_cons, List.map_nil, List.replicate, List.cons_append, List.nil_append, Nat.reduceSub, Ss.ev, S.ev, Hs.ev, E.ev, Es.ev, T.ev, Pt.put, Pts.put, Pts.len, Es.len, Oe.ev, It.ev, bind_ok, bind_err, bind_bad, th_ok, th_err, th_bad, nxth, retth, errth, badth, noerr_ok, fin_nx, fin_ret, fin_err, tidy_same, tidyX_same, List.getElem?_cons_zero, List.getElem?_cons_succ, List.set_cons_zero, List.set_cons_succ, a1, a2, b1, b2, List.length_cons, List.length_nil, Nat.reduceAdd, Nat.zero_le, line2, if_true, c3, z1]
end K16
set_option linter.all false
set_option autoImplicit false
set_option maxRecDepth 100000
set_option maxHeartbeats 16000000
namespace K16
open Sh PySem
variable {h : Hc}
theorem R11 : isRat (.tup [.int 1, .int 1]) = true := by decide +kernel
theorem R01 : isRat (.tup [.int 0, .int 1]) = true := by decide +kernel
def ODD : List C := [.bl true, .int (-1), .non, .str "0", .int 0, .tup [.int 0]]
theorem odd_un : ∀ c ∈ ODD, ∀ n, C.under n c = true := by
  intro c hc n
  simp only [ODD, List.mem_cons, List.not_mem_nil, or_false] at hc
  rcases hc with rfl | rfl | rfl | rfl | rfl | rfl <;> rfl
theorem nought_right {p : Nat} (hp : PotAt h p) (cl : ClH h) : ∃ h', run G sub WH 11 52 [.ref p] h = .ok (.bl true) h' ∧ PotAt h' p ∧ ClH h' := by
  have hl := hp.lt
  have s0 : Stp p h (h ++ [ODD]) := (Stp.refl hp cl).push rfl
  obtain ⟨i0, c, hb, a1, a2, a3⟩ := pick_run 8 (h := h ++ [ODD]) (p := p) (q := h.length) (xs := ODD) s0.pot (last_get _ _) (by omega) (by decide) (by decide)
  have s1 := s0.dr a2
  have uc : ∀ n, C.under n c = true := odd_un c (List.mem_of_getElem? a1)
  have k1 : Call p hb "real" [.tup []] [.str "IsNought", .str "", .bl true] := call_of (fun _ _ => rfl) (fun _ => rfl) fun hh n s e => ra_n (told_re e (re_n 4) (.inr ⟨_, _, rfl⟩))
  have k2 : Call p hb "between" [.tup [], .tup [.int 1, .int 1], .tup [.int 0, .int 1]] [.str "IsNought", .str "", .bl true] := call_of (fun _ _ => rfl) (fun _ => rfl) fun hh n s e => ra_n (told_bt e (bt_n 4 R11 R01) (.inr ⟨_, _, rfl⟩))
  have k3 : Call p hb "above" [.tup [], .tup [.int 0, .int 1]] [.str "IsNought", .str "", .bl true] := call_of (fun _ _ => rfl) (fun _ => rfl) fun hh n s e => ra_n (told_ab e (ab_n 4 R01) (.inr ⟨_, _, rfl⟩))
  have k4 : Call p hb "floor" [.tup [], c, c] [.str "IsNought", .str "", .bl true] := call_of (fun n _ => by simp [C.unders, C.under, uc n]) (fun _ => rfl) fun hh n s e => ra_n (told_fl e (fl_n 4) (.inr ⟨_, _, rfl⟩))
  have vz : Val p hb (.int 0) (.int 0) := .pure (by decide +kernel) (fun _ => by simp [datum, toD]) fun _ => rfl
  have k5 : Call p hb "signs" [.tup []] [.str "told", .rep (.int 0), .bl true] := call_of (fun _ _ => rfl) (fun _ => rfl) fun hh n s e => ra_told (told_sg e (sg_n s.cl) (.inl ⟨_, rfl⟩)) ((vz.step s).vd.now s.pot s.cl)
  have t1 : Tri [.str "IsNought", .str "", .bl true] := ⟨_, _, rfl, by decide +kernel, .inr ⟨_, rfl, by decide +kernel⟩⟩
  have t2 : Tri [.str "told", .rep (.int 0), .bl true] := vz.vd.tri (by decide +kernel)
  obtain ⟨i1, h1, b1, d1, e1, g1⟩ := k1 _ (.refl s1.pot s1.cl)
  obtain ⟨i2, h2, b2, d2, e2, g2⟩ := k2 _ d1
  have q2 := d1.trans d2
  obtain ⟨i3, h3, b3, d3, e3, g3⟩ := k3 _ q2
  have q3 := q2.trans d3
  obtain ⟨i4, h4, b4, d4, e4, g4⟩ := k4 _ q3
  have q4 := q3.trans d4
  have l0 := s1.len
  have l1 := d1.len; have l2 := d2.len; have l3 := d3.len; have l4 := d4.len
  have lb : h.length + 1 = (h ++ [ODD]).length := by simp
  have j1 : i1 < h1.length := (List.getElem?_eq_some_iff.mp e1).1
  have j2 : i2 < h2.length := (List.getElem?_eq_some_iff.mp e2).1
  have j3 : i3 < h3.length := (List.getElem?_eq_some_iff.mp e3).1
  have j4 : i4 < h4.length := (List.getElem?_eq_some_iff.mp e4).1
  have hpl : p < hb.length := s1.pot.lt
  have f1 := d4.keep i1 (by omega) (by omega)
  rw [d3.keep i1 (by omega) (by omega), d2.keep i1 (by omega) (by omega), e1] at f1
  have f2 := d4.keep i2 (by omega) (by omega)
  rw [d3.keep i2 (by omega) (by omega), e2] at f2
  have f3 := d4.keep i3 (by omega) (by omega)
  rw [e3] at f3
  generalize hT1 : ([.str "IsNought", .str "", .bl true] : List C) = T1 at *
  have s5 : Stp p hb (h4 ++ [[C.ref i1, C.ref i2, C.ref i3, C.ref i4]]) := q4.push (by simp [C.unders, C.under]; omega)
  generalize hA : h4 ++ [[C.ref i1, C.ref i2, C.ref i3, C.ref i4]] = A at *
  have gA : A[h4.length]? = some [C.ref i1, C.ref i2, C.ref i3, C.ref i4] := by rw [← hA]; exact last_get _ _
  have fA1 : A[i1]? = some T1 := by rw [← hA]; exact ga f1
  have fA2 : A[i2]? = some T1 := by rw [← hA]; exact ga f2
  have fA3 : A[i3]? = some T1 := by rw [← hA]; exact ga f3
  have fA4 : A[i4]? = some T1 := by rw [← hA]; exact ga e4
  have s6 : Stp p hb (A ++ [T1]) := s5.push (by rw [← hT1]; rfl)
  have s7 : Stp p hb (A ++ [T1] ++ [[C.ref A.length]]) := s6.push (by simp [C.unders, C.under]; omega)
  have mm := mul_ref 4 (last_get (A ++ [T1]) [C.ref A.length]) (by simp) (by decide)
  have mm : binop .mul (.ref (A ++ [T1]).length) (.int 4) (A ++ [T1] ++ [[C.ref A.length]]) = .ok (.ref (A ++ [T1] ++ [[C.ref A.length]]).length) (A ++ [T1] ++ [[C.ref A.length]] ++ [[C.ref A.length, C.ref A.length, C.ref A.length, C.ref A.length]]) := mm
  have s8 : Stp p hb (A ++ [T1] ++ [[C.ref A.length]] ++ [[C.ref A.length, C.ref A.length, C.ref A.length, C.ref A.length]]) := s7.push (by simp [C.unders, C.under]; omega)
  have lA : (A ++ [T1] ++ [[C.ref A.length]] ++ [[C.ref A.length, C.ref A.length, C.ref A.length, C.ref A.length]])[A.length]? = some T1 := ga (ga (last_get _ _))
  have cmp1 := eq_op (eq_rows (hh := A ++ [T1] ++ [[C.ref A.length]] ++ [[C.ref A.length, C.ref A.length, C.ref A.length, C.ref A.length]]) (a := h4.length) (b := (A ++ [T1] ++ [[C.ref A.length]]).length) (n := 39) (ga (ga (ga gA))) (last_get _ _) rfl (by
    have q1 := t1.eq (n := 37) (ga (t := [[C.ref A.length, C.ref A.length, C.ref A.length, C.ref A.length]]) (ga (t := [[C.ref A.length]]) (ga (t := [T1]) fA1))) lA
    have q2 := t1.eq (n := 37) (ga (t := [[C.ref A.length, C.ref A.length, C.ref A.length, C.ref A.length]]) (ga (t := [[C.ref A.length]]) (ga (t := [T1]) fA2))) lA
    have q3 := t1.eq (n := 37) (ga (t := [[C.ref A.length, C.ref A.length, C.ref A.length, C.ref A.length]]) (ga (t := [[C.ref A.length]]) (ga (t := [T1]) fA3))) lA
    have q4 := t1.eq (n := 37) (ga (t := [[C.ref A.length, C.ref A.length, C.ref A.length, C.ref A.length]]) (ga (t := [[C.ref A.length]]) (ga (t := [T1]) fA4))) lA
    simp only [both, q1, q2, q3, q4]; rfl))
  generalize hB : A ++ [T1] ++ [[C.ref A.length]] ++ [[C.ref A.length, C.ref A.length, C.ref A.length, C.ref A.length]] = B at *
  obtain ⟨i5, h5, b5, d5, e5, g5⟩ := k5 _ s8
  have s9 := s8.trans d5
  have du := due_call 9 (nm := "told") (vz.step s9) s9.pot s9.cl
  have s10 : Stp p hb (h5 ++ [[.str "told", .rep (.int 0), .bl true]]) := s9.push rfl
  have cmp2 := eq_op (t2.eq (n := 38) (ga (t := [[.str "told", .rep (.int 0), .bl true]]) e5) (last_get _ _))
  obtain ⟨hz, z1, z2, z3⟩ := tidyE hl (s1.trans s10) (.bl true) rfl
  refine ⟨hz, ?_, z2, z3⟩
  rw [un f52 _ _ _ rfl (of_decide_eq_true rfl)]
  have a3 : run G sub WH 10 44 [C.ref p, C.ref h.length] (h ++ [[.bl true, .int (-1), .non, .str "0", .int 0, .tup [.int 0]]]) = .ok c hb := a3
  have du : run G sub WH 10 47 [.str "told", .int 0] h5 = _ := du
  have l6 : (6 : Nat) ≤ lineN := by decide
  have lT : T1.length ≤ lineN := by rw [← hT1]; exact len3 _ _ _
  have l00 : ([] : List C).length ≤ lineN := by decide
  simp only [F_law_nought_right, List.map_cons, List.map_nil, List.replicate, List.cons_append, List.nil_append, Nat.reduceSub, Ss.ev, S.ev, Hs.ev, E.ev, Es.ev, T.ev, Pt.put, Pts.put, Pts.len, Es.len, Oe.ev, It.ev, bind_ok, bind_err, bind_bad, th_ok, th_err, th_bad, nxth, retth, errth, badth, noerr_ok, fin_nx, fin_ret, fin_err, tidy_same, tidyX_same, List.getElem?_cons_zero, List.getElem?_cons_succ, List.set_cons_zero, List.set_cons_succ, List.length_cons, List.length_nil, Nat.reduceAdd, Nat.zero_le, line1, line2, line3, line4, l6, if_true, a3, b1, b2, b3, b4, hT1, lT, hA, mm, cmp1, hB, b5, du, cmp2, z1, Int.reduceNeg]
theorem some_run {p : Nat} (hp : PotAt h p) (cl : ClH h) : ∃ (P : List Int) (m : Nat) (h' : Hc), run G sub WH 11 53 [.ref p] h = .ok (.tup [tZ P, .int (m : Int)]) h' ∧ (P, m) ∈ polys ∧ PotAt h' p ∧ ClH h' := by
  have hl := hp.lt
  let L : List C := polys.map fun x => .tup [tZ x.1, .int (x.2 : Int)]
  have s0 : Stp p h (h ++ [L]) := (Stp.refl hp cl).push rfl
  obtain ⟨i0, c, hb, a1, a2, a3⟩ := pick_run 8 (h := h ++ [L]) (p := p) (q := h.length) (xs := L) s0.pot (last_get _ _) (by omega) (by decide) (by decide)
  have s1 := s0.dr a2
  obtain ⟨x, hx, rfl⟩ := List.mem_map.mp (List.mem_of_getElem? a1)
  obtain ⟨P, m⟩ := x
  have uc : C.under h.length (.tup [tZ P, .int (m : Int)]) = true := by
    show (C.unders h.length (iZ P) && true) = true
    rw [iZ_unders]; rfl
  obtain ⟨hz, z1, z2, z3⟩ := tidyE hl s1 (.tup [tZ P, .int (m : Int)]) uc
  refine ⟨P, m, hz, ?_, hx, z2, z3⟩
  rw [un f53 _ _ _ rfl (of_decide_eq_true rfl)]
  have a3 : run G sub WH 10 44 [C.ref p, C.ref h.length] (h ++ [[.tup [.tup [.int 1, .int 0, .int 1], .int 0], .tup [.tup [.int 7], .int 0], .tup [.tup [.int 0, .int 0, .int 1], .int 1], .tup [.tup [.int 1, .int (-3), .int 1], .int 2], .tup [.tup [.int (-2), .int 0, .int 1], .int 2], .tup [.tup [.int 0, .int (-1), .int 0, .int 1], .int 3], .tup [.tup [.int (-3)], .int 0]]]) = .ok (.tup [tZ P, .int (m : Int)]) hb := a3
  have l7 : (7 : Nat) ≤ lineN := by decide
  simp only [F_law_some, List.map_cons, List.map_nil, List.replicate, List.cons_append, List.nil_append, Nat.reduceSub, Ss.ev, S.ev, Hs.ev, E.ev, Es.ev, T.ev, Pt.put, Pts.put, Pts.len, Es.len, Oe.ev, It.ev, bind_ok, bind_err, bind_bad, th_ok, th_err, th_bad, nxth, retth, errth, badth, noerr_ok, fin_nx, fin_ret, fin_err, tidy_same, tidyX_same, List.getElem?_cons_zero, List.getElem?_cons_succ, List.set_cons_zero, List.set_cons_succ, List.length_cons, List.length_nil, Nat.reduceAdd, Nat.zero_le, line1, line2, line3, line4, l7, if_true, a3, z1, Int.reduceNeg]
end K16
set_option linter.all false
set_option autoImplicit false
set_option maxRecDepth 100000
set_option maxHeartbeats 16000000
namespace K16
open Sh PySem
variable {h : Hc}
theorem gC_get {xs : List C} {i : Nat} (hi : i < xs.length) : xs[i]? = some (gC xs i) := by
  unfold gC
  rw [List.getD_eq_getElem?_getD, List.getElem?_eq_getElem hi]
  rfl
theorem m_le {P : List Int} {m : Nat} (hp : (P, m) ∈ polys) : m ≤ 3 := by
  simp only [polys, List.mem_cons, List.not_mem_nil, or_false, Prod.mk.injEq] at hp
  omega
def PV (m : Nat) : List C := [.bl true, .int (-1), .non, .str "0", .tup [.int 0], .int (m : Int), .int ((m : Int) + 3)]
theorem okm (m : Nat) (hm : m ≤ 3) : okD (.int (m : Int)) = true ∧ okD (.int ((m : Int) + 3)) = true := by
  match m, hm with
  | 0, _ => exact ⟨by decide +kernel, by decide +kernel⟩
  | 1, _ => exact ⟨by decide +kernel, by decide +kernel⟩
  | 2, _ => exact ⟨by decide +kernel, by decide +kernel⟩
  | 3, _ => exact ⟨by decide +kernel, by decide +kernel⟩
theorem pv_val {p m i : Nat} {c : C} {h0 : Hc} (hm : m ≤ 3) (hi : (PV m)[i]? = some c) : posOk m c = false ∧ ∃ dv, Val p h0 c dv := by
  match i, hi with
  | 0, hi => cases hi; exact ⟨rfl, .bool true, .pure (by decide +kernel) (fun _ => by simp [datum, toD]) fun _ => rfl⟩
  | 1, hi => cases hi; exact ⟨by simp [posOk], .int (-1), .pure (by decide +kernel) (fun _ => by simp [datum, toD]) fun _ => rfl⟩
  | 2, hi => cases hi; exact ⟨rfl, .none, .pure (by decide +kernel) (fun _ => by simp [datum, toD]) fun _ => rfl⟩
  | 3, hi => cases hi; exact ⟨rfl, .str "0", .pure (by decide +kernel) (fun _ => by simp [datum, toD]) fun _ => rfl⟩
  | 4, hi => cases hi; exact ⟨rfl, .tuple [.int 0], .pure (by decide +kernel) (fun _ => by simp [datum, toD]) fun _ => rfl⟩
  | 5, hi => cases hi; exact ⟨by simp [posOk], .int (m : Int), .pure (okm m hm).1 (fun _ => by simp [datum, toD]) fun _ => rfl⟩
  | 6, hi => cases hi; exact ⟨by simp [posOk]; omega, .int ((m : Int) + 3), .pure (okm m hm).2 (fun _ => by simp [datum, toD]) fun _ => rfl⟩
  | n + 7, hi => cases hi
def MV (q : Nat) : List C := [.bl true, .int (-1), .int 401, .non, .str "2", .ref q, .int 1000000000000000000000000000000]
theorem mv_val {p q i : Nat} {c : C} {h0 : Hc} (hq : h0[q]? = some [.int 1]) (hp : q ≠ p) (hi : (MV q)[i]? = some c) : isMn 0 400 c = false ∧ ∃ dv, Val p h0 c dv := by
  match i, hi with
  | 0, hi => cases hi; exact ⟨rfl, .bool true, .pure (by decide +kernel) (fun _ => by simp [datum, toD]) fun _ => rfl⟩
  | 1, hi => cases hi; exact ⟨by decide +kernel, .int (-1), .pure (by decide +kernel) (fun _ => by simp [datum, toD]) fun _ => rfl⟩
  | 2, hi => cases hi; exact ⟨by decide +kernel, .int 401, .pure (by decide +kernel) (fun _ => by simp [datum, toD]) fun _ => rfl⟩
  | 3, hi => cases hi; exact ⟨rfl, .none, .pure (by decide +kernel) (fun _ => by simp [datum, toD]) fun _ => rfl⟩
  | 4, hi => cases hi; exact ⟨rfl, .str "2", .pure (by decide +kernel) (fun _ => by simp [datum, toD]) fun _ => rfl⟩
  | 5, hi => cases hi; exact ⟨rfl, _, .l1 hq hp⟩
  | 6, hi => cases hi; exact ⟨by decide +kernel, .int 1000000000000000000000000000000, .pure (by decide +kernel) (fun _ => by simp [datum, toD]) fun _ => rfl⟩
  | n + 7, hi => cases hi
theorem fl400 {P : List Int} {m i : Nat} (hp : (P, m) ∈ polys) (hi : i < m) : ∃ j, run G sub WH 8 41 [tZ P, .int (i : Int), .int 400] [] = .ok (.int j) [] ∧ okD (.int j) = true := by
  simp only [polys, List.mem_cons, List.not_mem_nil, or_false, Prod.mk.injEq] at hp
  rcases hp with ⟨rfl, rfl⟩ | ⟨rfl, rfl⟩ | ⟨rfl, rfl⟩ | ⟨rfl, rfl⟩ | ⟨rfl, rfl⟩ | ⟨rfl, rfl⟩ | ⟨rfl, rfl⟩
  · omega
  · omega
  · match i, hi with
    | 0, _ => exact isA_eq floor400_2
  · match i, hi with
    | 0, _ => exact isA_eq floor400_30
    | 1, _ => exact isA_eq floor400_31
  · match i, hi with
    | 0, _ => exact isA_eq floor400_40
    | 1, _ => exact isA_eq floor400_41
  · match i, hi with
    | 0, _ => exact isA_eq floor400_50
    | 1, _ => exact isA_eq floor400_51
    | 2, _ => exact isA_eq floor400_52
  · omega
theorem fl0 {P : List Int} {m i : Nat} (hp : (P, m) ∈ polys) (hi : i < m) : ∃ j, run G sub WH 8 41 [tZ P, .int (i : Int), .int 0] [] = .ok (.int j) [] ∧ okD (.int j) = true :=
  isA_eq (List.all_eq_true.mp (List.all_eq_true.mp floor0_ok _ hp) i (List.mem_range.mpr hi))
theorem tP_un (P : List Int) (n : Nat) : C.under n (tZ P) = true := by
  show C.unders n (iZ P) = true
  exact iZ_unders _ _
theorem call_fl {p : Nat} {h0 : Hc} {P : List Int} {i j k : Int} (e : run G sub WH 8 41 [tZ P, .int i, .int k] [] = .ok (.int j) []) (o : okD (.int j) = true) : Call p h0 "floor" [tZ P, .int i, .int k] [.str "told", .rep (.int j), .bl true] :=
  call_of (fun n _ => by simp [C.unders, tP_un, C.under]) (fun _ => rfl) fun hh n s e2 => ra_told (told_fl e2 (run_pure G_nr e (by
    show ((tZ P).nr && true) = true
    rw [show (tZ P).nr = true from tZ_nr P]; rfl) rfl hh s.cl) (.inl ⟨_, rfl⟩)) ((Val.pure (p := p) (h := hh) o (fun _ => by simp [datum, toD]) fun _ => rfl).vd.now s.pot s.cl)
def FOUR : List C := [.int (-1), .int 401, .int 3, .non]
theorem four_un : ∀ c ∈ FOUR, ∀ n, C.under n c = true := by
  intro c hc n
  simp only [FOUR, List.mem_cons, List.not_mem_nil, or_false] at hc
  rcases hc with rfl | rfl | rfl | rfl <;> rfl
theorem pos_body {p m : Nat} {P : List Int} {x : C} {dv : PyData} {z4 z5 : Option C} (hp : (P, m) ∈ polys) (hx : posOk m x = false) {hd hh : Hc} (v : Val p hd x dv) (s : Stp p hd hh) :
    ∃ z4' h', Ss.ev (run G sub WH 10) sub WH (L_law_positions_right_4 46 44 47) none [some (.ref p), some (tZ P), some (.int (m : Int)), some x, z4, z5] hh = .nx [some (.ref p), some (tZ P), some (.int (m : Int)), some x, z4', z5] h' ∧ Stp p hd h' := by
  have hpl := s.pot.lt
  have s1 : Stp p hd (hh ++ [FOUR]) := s.push rfl
  obtain ⟨i0, c, h1, a1, a2, a3⟩ := pick_run 8 (h := hh ++ [FOUR]) (p := p) (q := hh.length) (xs := FOUR) s1.pot (last_get _ _) (by omega) (by decide) (by decide)
  have s2 := s1.dr a2
  have uc : ∀ n, C.under n c = true := four_un c (List.mem_of_getElem? a1)
  have v1 := v.step s2
  have k : Call p h1 "floor" [tZ P, x, c] [.str (nameOf 3), .rep dv, .bl true] := call_err (k := 3) (fun n hn => by simp [C.unders, tP_un, v1.un n hn, uc n]) (by decide) v1.vd fun hh n s e => told_fl e (fl_pos hp s.cl hx (v1.un _ s.len)) (.inr ⟨_, _, rfl⟩)
  have t : Tri [.str (nameOf 3), .rep dv, .bl true] := v1.vd.tri (so_name 3 (by decide))
  obtain ⟨i, h2, b1, d1, e1, g1⟩ := k _ (.refl s2.pot s2.cl)
  have s3 := s2.trans d1
  have du := due_call 9 (nm := nameOf 3) (v.step s3) s3.pot s3.cl
  have s4 : Stp p hd (h2 ++ [[.str (nameOf 3), .rep dv, .bl true]]) := s3.push rfl
  have cmp := ne_op (t.eq (n := 38) (ga (t := [[.str (nameOf 3), .rep dv, .bl true]]) e1) (last_get _ _))
  refine ⟨some (.ref i), _, ?_, s4⟩
  have a3 : run G sub WH 10 44 [C.ref p, C.ref hh.length] (hh ++ [[.int (-1), .int 401, .int 3, .non]]) = .ok c h1 := a3
  have du : run G sub WH 10 47 [.str "InvalidPosition", x] h2 = .ok (.ref h2.length) (h2 ++ [[.str (nameOf 3), .rep dv, .bl true]]) := du
  simp only [L_law_positions_right_4, Ss.ev, S.ev, Hs.ev, E.ev, Es.ev, T.ev, Pt.put, Pts.put, Pts.len, Es.len, Oe.ev, It.ev, bind_ok, bind_err, bind_bad, th_ok, th_err, th_bad, nxth, retth, errth, badth, noerr_ok, fin_nx, fin_ret, fin_err, tidy_same, tidyX_same, List.getElem?_cons_zero, List.getElem?_cons_succ, List.set_cons_zero, List.set_cons_succ, List.length_cons, List.length_nil, Nat.reduceAdd, line3, line4, if_true, a3, b1, du, cmp, Bool.false_eq_true, if_false, Int.reduceNeg]
theorem many_body {p m : Nat} {P : List Int} {i : Nat} {x : C} {dv : PyData} {z4 : Option C} (hp : (P, m) ∈ polys) (hi : i < m) (hx : isMn 0 400 x = false) {hd hh : Hc} (v : Val p hd x dv) (s : Stp p hd hh) :
    ∃ z4' h', Ss.ev (run G sub WH 10) sub WH (L_law_positions_right_2 46 47) none [some (.ref p), some (tZ P), some (.int (m : Int)), some x, z4, some (.int (i : Int))] hh = .nx [some (.ref p), some (tZ P), some (.int (m : Int)), some x, z4', some (.int (i : Int))] h' ∧ Stp p hd h' := by
  have hpl := s.pot.lt
  have v1 := v.step s
  have k : Call p hh "floor" [tZ P, .int (i : Int), x] [.str (nameOf 2), .rep dv, .bl true] := call_err (k := 2) (fun n hn => by simp [C.unders, tP_un, v1.un n hn, un_int]) (by decide) v1.vd fun hh n s e => told_fl e (fl_many hp s.cl (by omega) (by omega) hx (v1.un _ s.len)) (.inr ⟨_, _, rfl⟩)
  have t : Tri [.str (nameOf 2), .rep dv, .bl true] := v1.vd.tri (so_name 2 (by decide))
  obtain ⟨i1, h2, b1, d1, e1, g1⟩ := k _ (.refl s.pot s.cl)
  have s3 := s.trans d1
  have du := due_call 9 (nm := nameOf 2) (v.step s3) s3.pot s3.cl
  have s4 : Stp p hd (h2 ++ [[.str (nameOf 2), .rep dv, .bl true]]) := s3.push rfl
  have cmp := ne_op (t.eq (n := 38) (ga (t := [[.str (nameOf 2), .rep dv, .bl true]]) e1) (last_get _ _))
  refine ⟨some (.ref i1), _, ?_, s4⟩
  have du : run G sub WH 10 47 [.str "InvalidMany", x] h2 = .ok (.ref h2.length) (h2 ++ [[.str (nameOf 2), .rep dv, .bl true]]) := du
  simp only [L_law_positions_right_2, Ss.ev, S.ev, Hs.ev, E.ev, Es.ev, T.ev, Pt.put, Pts.put, Pts.len, Es.len, Oe.ev, It.ev, bind_ok, bind_err, bind_bad, th_ok, th_err, th_bad, nxth, retth, errth, badth, noerr_ok, fin_nx, fin_ret, fin_err, tidy_same, tidyX_same, List.getElem?_cons_zero, List.getElem?_cons_succ, List.set_cons_zero, List.set_cons_succ, List.length_cons, List.length_nil, Nat.reduceAdd, line3, if_true, b1, du, cmp, Bool.false_eq_true, if_false, Int.reduceNeg]
theorem pow30 (h : Hc) : binop .pow (.int 10) (.int 30) h = .ok (.int 1000000000000000000000000000000) h := rfl
theorem qtold (h : Hc) : cmpop .eq (.str "told") (.str "told") h = .ok (.bl true) h := eq_str h _ _ _ (by decide +kernel) (by decide +kernel) (by decide +kernel)
theorem eqz (h : Hc) (i : Int) : cmpop .eq (.int i) (.int 0) h = .ok (.bl (i == 0)) h := rfl
theorem positions_right {p m : Nat} {P : List Int} (hm : (P, m) ∈ polys) (hp : PotAt h p) (cl : ClH h) : ∃ h', run G sub WH 11 54 [.ref p, tZ P, .int (m : Int)] h = .ok (.bl true) h' ∧ PotAt h' p ∧ ClH h' := by
  have hl := hp.lt
  have m3 := m_le hm
  obtain ⟨sl', h1, c3, y3, y4, c4, c5⟩ := forF_gen (it := .tre (PV m)) (n := 7) (el := fun i => gC (PV m) i) (g := Pt.put (run G sub WH 10) sub WH none P_law_positions_right_3) (b := Ss.ev (run G sub WH 10) sub WH (L_law_positions_right_4 46 44 47) none)
    (fun i sl hh => ∃ y3 y4, sl = [some (.ref p), some (tZ P), some (.int (m : Int)), y3, y4, none] ∧ Stp p h hh)
    (fun i sl hh _ _ => at_treC (PV m) i hh)
    (fun i sl hh ⟨y3, y4, e1, e2⟩ hi => by
      subst e1
      have gx : (PV m)[i]? = some (gC (PV m) i) := gC_get hi
      obtain ⟨q1, dv, q2⟩ := pv_val (p := p) (h0 := h) m3 gx
      obtain ⟨z4', h', q3, q4⟩ := pos_body (z4 := y4) (z5 := none) hm q1 q2 e2
      exact ⟨_, _, _, _, rfl, .inl q3, _, _, rfl, q4⟩) WH 0 [some (.ref p), some (tZ P), some (.int (m : Int)), none, none, none] h ⟨_, _, rfl, .refl hp cl⟩ (by decide) (by have := hWH; omega)
  subst c4
  have l7 : (7 : Nat) ≤ lineN := by decide
  have c3 : forF (ItV.tre [.bl true, .int (-1), .non, .str "0", .tup [.int 0], .int (m : Int), .int ((m : Int) + 3)]) (Pt.put (run G sub WH 10) sub WH none P_law_positions_right_3) (Ss.ev (run G sub WH 10) sub WH (L_law_positions_right_4 46 44 47) none) WH 0 [some (.ref p), some (tZ P), some (.int (m : Int)), none, none, none] h = .nx [some (.ref p), some (tZ P), some (.int (m : Int)), y3, y4, none] h1 := c3
  by_cases m0 : m = 0
  · obtain ⟨hz, z1, z2, z3⟩ := tidyE hl c5 (.bl true) rfl
    refine ⟨hz, ?_, z2, z3⟩
    rw [un f54 _ _ _ rfl (of_decide_eq_true rfl)]
    have e0 : ((m : Int) == 0) = true := by rw [m0]; rfl
    simp only [F_law_positions_right, List.map_cons, List.map_nil, List.replicate, List.cons_append, List.nil_append, Nat.reduceSub, Ss.ev, S.ev, Hs.ev, E.ev, Es.ev, T.ev, Pt.put, Pts.put, Pts.len, Es.len, Oe.ev, It.ev, bind_ok, bind_err, bind_bad, th_ok, th_err, th_bad, nxth, retth, errth, badth, noerr_ok, fin_nx, fin_ret, fin_err, tidy_same, tidyX_same, List.getElem?_cons_zero, List.getElem?_cons_succ, List.set_cons_zero, List.set_cons_succ, List.length_cons, List.length_nil, Nat.reduceAdd, add_int, l7, line1, if_true, Int.reduceNeg, c3, eqz, e0, z1]
  · obtain ⟨dg, h2, b1, b2, b3, b4⟩ := draw_ok 9 h1 p (m : Int) c5.pot (by omega) (by omega)
    obtain ⟨i, rfl⟩ : ∃ i : Nat, dg = (i : Int) := ⟨dg.toNat, by omega⟩
    have hi : i < m := by omega
    have s2 := c5.dr b3
    have s3 : Stp p h (h2 ++ [[.int 1]]) := s2.push rfl
    have hpl := s2.pot.lt
    obtain ⟨sl2, h4, f3, w3, w4, f4, f5⟩ := forF_gen (it := .tre (MV h2.length)) (n := 7) (el := fun i => gC (MV h2.length) i) (g := Pt.put (run G sub WH 10) sub WH none P_law_positions_right_1) (b := Ss.ev (run G sub WH 10) sub WH (L_law_positions_right_2 46 47) none)
      (fun k sl hh => ∃ y3 y4, sl = [some (.ref p), some (tZ P), some (.int (m : Int)), y3, y4, some (.int (i : Int))] ∧ Stp p (h2 ++ [[.int 1]]) hh)
      (fun k sl hh _ _ => at_treC (MV h2.length) k hh)
      (fun k sl hh ⟨y3, y4, e1, e2⟩ hk => by
        subst e1
        have gx : (MV h2.length)[k]? = some (gC (MV h2.length) k) := gC_get hk
        obtain ⟨q1, dv, q2⟩ := mv_val (p := p) (h0 := h2 ++ [[.int 1]]) (last_get _ _) (by omega) gx
        obtain ⟨z4', h', q3, q4⟩ := many_body (z4 := y4) hm hi q1 q2 e2
        exact ⟨_, _, _, _, rfl, .inl q3, _, _, rfl, q4⟩) WH 0 [some (.ref p), some (tZ P), some (.int (m : Int)), y3, y4, some (.int (i : Int))] (h2 ++ [[.int 1]]) ⟨_, _, rfl, .refl s3.pot s3.cl⟩ (by decide) (by have := hWH; omega)
    subst f4
    obtain ⟨j1, o1, o2⟩ := fl400 hm hi
    obtain ⟨j2, o3, o4⟩ := fl0 hm hi
    have s4 := s3.trans f5
    obtain ⟨r1, h5, u1, u2, u3, u4⟩ := call_fl (p := p) (h0 := h4) o1 o2 _ (.refl s4.pot s4.cl)
    have s5 := s4.trans u2
    obtain ⟨r2, h6, t1, t2, t3, t4⟩ := call_fl (p := p) (h0 := h5) o3 o4 _ (.refl s5.pot s5.cl)
    have s6 := s5.trans t2
    have it1 : item (.ref r1) (.int 0) h5 = .ok (.str "told") h5 := it_a (j := 0) u3 rfl
    have it2 : item (.ref r2) (.int 0) h6 = .ok (.str "told") h6 := it_a (j := 0) t3 rfl
    obtain ⟨hz, z1, z2, z3⟩ := tidyE hl s6 (.bl true) rfl
    refine ⟨hz, ?_, z2, z3⟩
    rw [un f54 _ _ _ rfl (of_decide_eq_true rfl)]
    have e0 : ((m : Int) == 0) = false := by
      rw [beq_eq_false_iff_ne]; omega
    have b4 : run G sub WH 10 43 [C.ref p, C.int (m : Int)] h1 = .ok (.int (i : Int)) h2 := b4
    have f3 : forF (ItV.tre [.bl true, .int (-1), .int 401, .non, .str "2", .ref h2.length, .int 1000000000000000000000000000000]) (Pt.put (run G sub WH 10) sub WH none P_law_positions_right_1) (Ss.ev (run G sub WH 10) sub WH (L_law_positions_right_2 46 47) none) WH 0 [some (.ref p), some (tZ P), some (.int (m : Int)), y3, y4, some (.int (i : Int))] (h2 ++ [[.int 1]]) = .nx [some (.ref p), some (tZ P), some (.int (m : Int)), w3, w4, some (.int (i : Int))] h4 := f3
    simp only [F_law_positions_right, List.map_cons, List.map_nil, List.replicate, List.cons_append, List.nil_append, Nat.reduceSub, Ss.ev, S.ev, Hs.ev, E.ev, Es.ev, T.ev, Pt.put, Pts.put, Pts.len, Es.len, Oe.ev, It.ev, bind_ok, bind_err, bind_bad, th_ok, th_err, th_bad, nxth, retth, errth, badth, noerr_ok, fin_nx, fin_ret, fin_err, tidy_same, tidyX_same, List.getElem?_cons_zero, List.getElem?_cons_succ, List.set_cons_zero, List.set_cons_succ, List.length_cons, List.length_nil, Nat.reduceAdd, add_int, l7, line1, line3, if_true, Int.reduceNeg, c3, eqz, e0, Bool.false_eq_true, if_false, b4, pow30, f3, u1, it1, qtold, t1, it2, z1]
end K16
set_option linter.all false
set_option autoImplicit false
set_option maxRecDepth 100000
set_option maxHeartbeats 16000000
namespace K16
open Sh PySem
theorem real_ok9 : polys.all (fun x => isR (run G sub WH 9 38 [tZ x.1] []) x.2) = true := by decide +kernel
theorem law_run (ns : List Int) : ∃ h', run G sub WH 12 55 [.frz (iZ ns)] [] = .ok (.bl true) h' := by
  have cl0 : ClH ([] : Hc) := rfl
  obtain ⟨p, h1, p1, cl1, e1⟩ := pot_run 10 [] ns cl0
  obtain ⟨P, m, h2, e2, hm, p2, cl2⟩ := some_run p1 cl1
  have hl := p2.lt
  -- the count
  have k9 : ∀ hh, ClH hh → run G sub WH 9 38 [tZ P] hh = .ok (.int (m : Int)) hh := fun hh cl => run_pure G_nr (isR_eq (List.all_eq_true.mp real_ok9 _ hm)) (by
    show ((tZ P).nr && true) = true
    rw [show (tZ P).nr = true from tZ_nr P]; rfl) rfl hh cl
  have s1 : Stp p h2 (h2 ++ [[tZ P]]) := (Stp.refl p2 cl2).push (by simp [C.unders, tP_un])
  have i0 : item (.ref h2.length) (.int 0) (h2 ++ [[tZ P]]) = .ok (tZ P) (h2 ++ [[tZ P]]) := it_a (j := 0) (last_get _ _) rfl
  have e3 : run G sub WH 10 45 [.str "real", .ref h2.length] (h2 ++ [[tZ P]]) = .ok (.int (m : Int)) (h2 ++ [[tZ P]]) := by
    rw [un f45 _ _ _ rfl (of_decide_eq_true rfl)]
    simp only [F_law_told, List.map_cons, List.map_nil, List.replicate, List.cons_append, List.nil_append, Nat.reduceSub, Ss.ev, S.ev, Hs.ev, E.ev, Es.ev, T.ev, Pt.put, Pts.put, Pts.len, Es.len, Oe.ev, It.ev, bind_ok, bind_err, bind_bad, th_ok, th_err, th_bad, nxth, retth, errth, badth, noerr_ok, fin_nx, fin_ret, fin_err, tidy_same, tidyX_same, List.getElem?_cons_zero, List.getElem?_cons_succ, List.set_cons_zero, List.set_cons_succ, q21, q22, i0, k9 _ s1.cl, Bool.false_eq_true, if_false, if_true]
  have vm : ∀ hh, Val p hh (.int (m : Int)) (.int (m : Int)) := fun hh => .pure (okm m (m_le hm)).1 (fun _ => by simp [datum, toD]) fun _ => rfl
  have e4 : run G sub WH 11 46 [.str "real", .ref h2.length] (h2 ++ [[tZ P]]) = .ok (.ref (h2 ++ [[tZ P]]).length) (h2 ++ [[tZ P]] ++ [[C.str "told", C.rep (.int (m : Int)), C.bl true]]) := by
    have t := fun (h1 : Hc) => tidy_ref (h := h2 ++ [[tZ P]]) (h1 := h1) (n := (h2 ++ [[tZ P]]).length) (Nat.le_refl _)
    have hd := (vm (h2 ++ [[tZ P]])).vd.now s1.pot s1.cl
    rw [un f46 _ _ _ rfl (of_decide_eq_true rfl)]
    simp only [F_law_raised, List.map_cons, List.map_nil, List.replicate, List.cons_append, List.nil_append, Nat.reduceSub, Ss.ev, S.ev, Hs.ev, E.ev, Es.ev, T.ev, Pt.put, Pts.put, Pts.len, Es.len, Oe.ev, It.ev, bind_ok, bind_err, bind_bad, th_ok, th_err, th_bad, nxth, retth, errth, badth, noerr_ok, fin_nx, fin_ret, fin_err, tidy_same, tidyX_same, List.getElem?_cons_zero, List.getElem?_cons_succ, List.set_cons_zero, List.set_cons_succ, List.length_cons, List.length_nil, Nat.reduceAdd, e3, hd, line3, if_true, t]
  have s2 : Stp p h2 (h2 ++ [[tZ P]] ++ [[C.str "told", C.rep (.int (m : Int)), C.bl true]]) := s1.push rfl
  have du := due_call 10 (nm := "told") (vm _) s2.pot s2.cl
  have s3 : Stp p h2 (h2 ++ [[tZ P]] ++ [[C.str "told", C.rep (.int (m : Int)), C.bl true]] ++ [[C.str "told", C.rep (.int (m : Int)), C.bl true]]) := s2.push rfl
  have t : Tri [C.str "told", C.rep (.int (m : Int)), C.bl true] := (vm h2).vd.tri (by decide +kernel)
  have cmp := ne_op (t.eq (n := 38) (ga (t := [[C.str "told", C.rep (.int (m : Int)), C.bl true]]) (last_get (h2 ++ [[tZ P]]) [C.str "told", C.rep (.int (m : Int)), C.bl true])) (last_get (h2 ++ [[tZ P]] ++ [[C.str "told", C.rep (.int (m : Int)), C.bl true]]) [C.str "told", C.rep (.int (m : Int)), C.bl true]))
  obtain ⟨h4, g1, p4, cl4⟩ := poly_right s3.pot s3.cl
  have hP : isPoly (tZ P) = true := (Bool.and_eq_true_iff.mp (List.all_eq_true.mp polys_poly _ hm)).1
  obtain ⟨h5, g2, p5, cl5⟩ := ratios_right hP p4 cl4
  obtain ⟨h6, g3, p6, cl6⟩ := nought_right p5 cl5
  obtain ⟨h7, g4, p7, cl7⟩ := positions_right hm p6 cl6
  have tz : ∀ hh : Hc, tidy ([] : Hc).length (.bl true) hh = .ok (.bl true) (hh.take 0) := fun hh => by
    show (if C.under 0 (.bl true) && (hh.take 0).all (C.unders 0) then R.ok (C.bl true) (hh.take 0) else .ok (.bl true) hh) = _
    rw [List.take_zero]; rfl
  refine ⟨h7.take 0, ?_⟩
  rw [un f55 _ _ _ rfl (of_decide_eq_true rfl)]
  have e1 : run G sub WH 11 42 [.frz (iZ ns), .int 0] [] = .ok (.ref p) h1 := e1
  have du : run G sub WH 11 47 [.str "told", .int (m : Int)] (h2 ++ [[tZ P]] ++ [[C.str "told", C.rep (.int (m : Int)), C.bl true]]) = .ok (.ref (h2 ++ [[tZ P]] ++ [[C.str "told", C.rep (.int (m : Int)), C.bl true]]).length) (h2 ++ [[tZ P]] ++ [[C.str "told", C.rep (.int (m : Int)), C.bl true]] ++ [[C.str "told", C.rep (.int (m : Int)), C.bl true]]) := du
  simp only [F_law, List.map_cons, List.map_nil, List.replicate, List.cons_append, List.nil_append, Nat.reduceSub, Ss.ev, S.ev, Hs.ev, E.ev, Es.ev, T.ev, Pt.put, Pts.put, Pts.len, Es.len, Oe.ev, It.ev, bind_ok, bind_err, bind_bad, th_ok, th_err, th_bad, nxth, retth, errth, badth, noerr_ok, fin_nx, fin_ret, fin_err, tidy_same, tidyX_same, List.getElem?_cons_zero, List.getElem?_cons_succ, List.set_cons_zero, List.set_cons_succ, List.length_cons, List.length_nil, Nat.reduceAdd, line1, if_true, e1, e2, e4, du, cmp, Bool.false_eq_true, if_false, truth_b, Bool.not_true, g1, g2, g3, g4]
  exact tz h7
theorem plain (ns : List Int) (_ : ns.length ≤ 63) : ∃ h', run (fnsOf its) sub WH 12 55 [.frz (ns.map C.int)] [] = .ok (.bl true) h' := law_run ns
end K16
open PySem PySem.W PyProof.Rows
set_option maxRecDepth 100000 in
set_option maxHeartbeats 0 in
theorem PySem.Challenge.cw_whichpaces_k16_counts_and_floors_refused_holds : PySem.Challenge.rw_whichpaces_k16_counts_and_floors_refused.Holds := by
  w_on; o_law; k_head; (case hw => w_witness2)
  k_fill
  refine Sh.walk_G (l := PySem.Challenge.rw_whichpaces_k16_counts_and_floors_refused) (n := 63) (k := K16.DP + 2) (x := "script") (sp := fun w => Sh.sp0 _) rfl (by decide) rfl ⟨rfl, by decide, by decide⟩ (fun w h Y => PySem.W.kIn_of Y) ?F (fun _ H a ns h1 h2 h3 => ⟨a, ns, rfl, h1, h3, fun _ => rfl⟩)
  case F =>
    intro w mg fa h KX G hmg
    refine' K16.all_mk KX G hmg ?aC0 ?su0 ?hd0 ?tC0 ?ga0 ?gg0 ?ha0 ?hm0 ?kC0 ?no0_value ?xL0 ?bm0_ ?sa0 ?gi0 ?gt0 ?gl0 ?gc0 ?gk0 ?aC1 ?su1 ?hd1 ?tC1 ?ga1 ?gg1 ?ha1 ?hm1 ?kC1 ?no1_value ?xL1 ?bm1_ ?sa1 ?gi1 ?gt1 ?gl1 ?gc1 ?gk1 ?aC2 ?su2 ?hd2 ?tC2 ?ga2 ?gg2 ?ha2 ?hm2 ?kC2 ?no2_value ?xL2 ?bm2_ ?sa2 ?gi2 ?gt2 ?gl2 ?gc2 ?gk2 ?aC3 ?su3 ?hd3 ?tC3 ?ga3 ?gg3 ?ha3 ?hm3 ?kC3 ?no3_value ?xL3 ?bm3_ ?sa3 ?gi3 ?gt3 ?gl3 ?gc3 ?gk3 ?aC4 ?su4 ?hd4 ?tC4 ?ga4 ?gg4 ?ha4 ?hm4 ?kC4 ?xi4 ?aC5 ?su5 ?hd5 ?tC5 ?aC6 ?su6 ?hd6 ?tC6 ?sb0_0 ?sb0_1 ?sb0_2 ?sb0_3 ?sb0_4 ?sb0_5 ?sb0_6 ?sb1_0 ?sb1_1 ?sb1_2 ?sb1_3 ?sb1_4 ?sb1_5 ?sb1_6 ?sb2_0 ?sb2_1 ?sb2_2 ?sb2_3 ?sb2_4 ?sb2_5 ?sb2_6 ?sb3_0 ?sb3_1 ?sb3_2 ?sb3_3 ?sb3_4 ?sb3_5 ?sb3_6 ?sb4_0 ?sb4_1 ?sb4_2 ?sb4_3 ?sb4_4 ?sb4_5 ?sb4_6 ?sG ?sT ?kt0_RuntimeError ?ne0_5 ?ne0_6 ?kt0_ValueError ?kt1_RuntimeError ?ne1_5 ?ne1_6 ?kt1_ValueError ?kt2_RuntimeError ?ne2_5 ?ne2_6 ?kt2_ValueError ?kt3_RuntimeError ?ne3_5 ?ne3_6 ?kt3_ValueError ?kt4_RuntimeError ?ne4_5 ?ne4_6 ?kt4_ValueError ?z_RuntimeError ?z_ValueError ?ah0 ?lh0 ?cch0 ?kh0 ?z_abs ?z_bool ?z_divmod ?z_enumerate ?z_int ?z_isinstance ?z_len ?z_list ?z_max ?z_range ?z_repr ?z_reversed ?z_tuple ?z_gcd ?zc_MOST_NUMBERS ?zc_MOST_SIZE ?zc_MOST_PLACES ?a0 ?l0 ?cc0 ?k0 ?a1 ?l1 ?cc1 ?k1 ?a2 ?l2 ?cc2 ?k2 ?a3 ?l3 ?cc3 ?k3 ?a4 ?l4 ?cc4 ?k4 ?a5 ?l5 ?cc5 ?k5 ?a6 ?l6 ?cc6 ?k6 ?a7 ?l7 ?cc7 ?k7 ?a8 ?l8 ?cc8 ?k8 ?a9 ?l9 ?cc9 ?k9 ?a10 ?l10 ?cc10 ?k10 ?a11 ?l11 ?cc11 ?k11 ?a12 ?l12 ?cc12 ?k12 ?a13 ?l13 ?cc13 ?k13 ?a14 ?l14 ?cc14 ?k14 ?a15 ?l15 ?cc15 ?k15 ?a16 ?l16 ?cc16 ?k16 ?a17 ?l17 ?cc17 ?k17 ?a18 ?l18 ?cc18 ?k18 ?a19 ?l19 ?cc19 ?k19 ?a20 ?l20 ?cc20 ?k20 ?a21 ?l21 ?cc21 ?k21 ?a22 ?l22 ?cc22 ?k22 ?a23 ?l23 ?cc23 ?k23 ?a24 ?l24 ?cc24 ?k24 ?a25 ?l25 ?cc25 ?k25 ?a26 ?l26 ?cc26 ?k26 ?a27 ?l27 ?cc27 ?k27 ?a28 ?l28 ?cc28 ?k28 ?a29 ?l29 ?cc29 ?k29 ?a30 ?l30 ?cc30 ?k30 ?a31 ?l31 ?cc31 ?k31 ?a32 ?l32 ?cc32 ?k32 ?a33 ?l33 ?cc33 ?k33 ?a34 ?l34 ?cc34 ?k34 ?a35 ?l35 ?cc35 ?k35 ?a36 ?l36 ?cc36 ?k36 ?a37 ?l37 ?cc37 ?k37 ?a38 ?l38 ?cc38 ?k38 ?a39 ?l39 ?cc39 ?k39 ?a40 ?l40 ?cc40 ?k40 ?a41 ?l41 ?cc41 ?k41 ?a42 ?l42 ?cc42 ?k42 ?a43 ?l43 ?cc43 ?k43 ?a44 ?l44 ?cc44 ?k44 ?a45 ?l45 ?cc45 ?k45 ?a46 ?l46 ?cc46 ?k46 ?a47 ?l47 ?cc47 ?k47 ?a48 ?l48 ?cc48 ?k48 ?a49 ?l49 ?cc49 ?k49 ?a50 ?l50 ?cc50 ?k50 ?a51 ?l51 ?cc51 ?k51 ?a52 ?l52 ?cc52 ?k52 ?a53 ?l53 ?cc53 ?k53 ?a54 ?l54 ?cc54 ?k54 ?a55 ?l55 ?cc55 ?k55 ?plain
    (case aC0 => k_is)
    (case su0 => k_is)
    (case hd0 => k_is)
    (case tC0 => k_is)
    (case ga0 => k_is)
    (case gg0 => k_is)
    (case ha0 => k_is)
    (case hm0 => k_is)
    (case kC0 => k_is)
    (case no0_value => k_is)
    (case xL0 => k_is)
    (case bm0_ => decide +kernel)
    (case sa0 => k_is)
    (case gi0 => k_is)
    (case gt0 => k_is)
    (case gl0 => k_is)
    (case gc0 => k_is)
    (case gk0 => k_is)
    (case aC1 => k_is)
    (case su1 => k_is)
    (case hd1 => k_is)
    (case tC1 => k_is)
    (case ga1 => k_is)
    (case gg1 => k_is)
    (case ha1 => k_is)
    (case hm1 => k_is)
    (case kC1 => k_is)
    (case no1_value => k_is)
    (case xL1 => k_is)
    (case bm1_ => decide +kernel)
    (case sa1 => k_is)
    (case gi1 => k_is)
    (case gt1 => k_is)
    (case gl1 => k_is)
    (case gc1 => k_is)
    (case gk1 => k_is)
    (case aC2 => k_is)
    (case su2 => k_is)
    (case hd2 => k_is)
    (case tC2 => k_is)
    (case ga2 => k_is)
    (case gg2 => k_is)
    (case ha2 => k_is)
    (case hm2 => k_is)
    (case kC2 => k_is)
    (case no2_value => k_is)
    (case xL2 => k_is)
    (case bm2_ => decide +kernel)
    (case sa2 => k_is)
    (case gi2 => k_is)
    (case gt2 => k_is)
    (case gl2 => k_is)
    (case gc2 => k_is)
    (case gk2 => k_is)
    (case aC3 => k_is)
    (case su3 => k_is)
    (case hd3 => k_is)
    (case tC3 => k_is)
    (case ga3 => k_is)
    (case gg3 => k_is)
    (case ha3 => k_is)
    (case hm3 => k_is)
    (case kC3 => k_is)
    (case no3_value => k_is)
    (case xL3 => k_is)
    (case bm3_ => decide +kernel)
    (case sa3 => k_is)
    (case gi3 => k_is)
    (case gt3 => k_is)
    (case gl3 => k_is)
    (case gc3 => k_is)
    (case gk3 => k_is)
    (case aC4 => k_is)
    (case su4 => k_is)
    (case hd4 => k_is)
    (case tC4 => k_is)
    (case ga4 => k_is)
    (case gg4 => k_is)
    (case ha4 => k_is)
    (case hm4 => k_is)
    (case kC4 => k_is)
    (case xi4 => first | k_exc | decide +kernel)
    (case aC5 => k_is)
    (case su5 => k_is)
    (case hd5 => k_is)
    (case tC5 => k_is)
    (case aC6 => k_is)
    (case su6 => k_is)
    (case hd6 => k_is)
    (case tC6 => k_is)
    (case sb0_0 => first | rfl | k_is)
    (case sb0_1 => first | rfl | k_is)
    (case sb0_2 => first | rfl | k_is)
    (case sb0_3 => first | rfl | k_is)
    (case sb0_4 => first | rfl | k_is)
    (case sb0_5 => first | rfl | k_is)
    (case sb0_6 => first | rfl | k_is)
    (case sb1_0 => first | rfl | k_is)
    (case sb1_1 => first | rfl | k_is)
    (case sb1_2 => first | rfl | k_is)
    (case sb1_3 => first | rfl | k_is)
    (case sb1_4 => first | rfl | k_is)
    (case sb1_5 => first | rfl | k_is)
    (case sb1_6 => first | rfl | k_is)
    (case sb2_0 => first | rfl | k_is)
    (case sb2_1 => first | rfl | k_is)
    (case sb2_2 => first | rfl | k_is)
    (case sb2_3 => first | rfl | k_is)
    (case sb2_4 => first | rfl | k_is)
    (case sb2_5 => first | rfl | k_is)
    (case sb2_6 => first | rfl | k_is)
    (case sb3_0 => first | rfl | k_is)
    (case sb3_1 => first | rfl | k_is)
    (case sb3_2 => first | rfl | k_is)
    (case sb3_3 => first | rfl | k_is)
    (case sb3_4 => first | rfl | k_is)
    (case sb3_5 => first | rfl | k_is)
    (case sb3_6 => first | rfl | k_is)
    (case sb4_0 => first | rfl | k_is)
    (case sb4_1 => first | rfl | k_is)
    (case sb4_2 => first | rfl | k_is)
    (case sb4_3 => first | rfl | k_is)
    (case sb4_4 => first | rfl | k_is)
    (case sb4_5 => first | rfl | k_is)
    (case sb4_6 => first | rfl | k_is)
    (case sG => k_is)
    (case sT => k_is)
    (case kt0_RuntimeError => first | rfl | k_is | decide +kernel)
    (case ne0_5 => decide)
    (case ne0_6 => decide)
    (case kt0_ValueError => first | rfl | k_is | decide +kernel)
    (case kt1_RuntimeError => first | rfl | k_is | decide +kernel)
    (case ne1_5 => decide)
    (case ne1_6 => decide)
    (case kt1_ValueError => first | rfl | k_is | decide +kernel)
    (case kt2_RuntimeError => first | rfl | k_is | decide +kernel)
    (case ne2_5 => decide)
    (case ne2_6 => decide)
    (case kt2_ValueError => first | rfl | k_is | decide +kernel)
    (case kt3_RuntimeError => first | rfl | k_is | decide +kernel)
    (case ne3_5 => decide)
    (case ne3_6 => decide)
    (case kt3_ValueError => first | rfl | k_is | decide +kernel)
    (case kt4_RuntimeError => first | rfl | k_is | decide +kernel)
    (case ne4_5 => decide)
    (case ne4_6 => decide)
    (case kt4_ValueError => first | rfl | k_is | decide +kernel)
    (case z_RuntimeError => k_is)
    (case z_ValueError => k_is)
    (case ah0 => k_is)
    (case lh0 => k_is)
    (case cch0 => k_is)
    (case kh0 => k_is)
    (case z_abs => k_is)
    (case z_bool => k_is)
    (case z_divmod => k_is)
    (case z_enumerate => k_is)
    (case z_int => k_is)
    (case z_isinstance => k_is)
    (case z_len => k_is)
    (case z_list => k_is)
    (case z_max => k_is)
    (case z_range => k_is)
    (case z_repr => k_is)
    (case z_reversed => k_is)
    (case z_tuple => k_is)
    (case z_gcd => k_is)
    (case zc_MOST_NUMBERS => k_is)
    (case zc_MOST_SIZE => k_is)
    (case zc_MOST_PLACES => k_is)
    (case a0 => k_is)
    (case l0 => k_is)
    (case cc0 => k_is)
    (case k0 => k_is)
    (case a1 => k_is)
    (case l1 => k_is)
    (case cc1 => k_is)
    (case k1 => k_is)
    (case a2 => k_is)
    (case l2 => k_is)
    (case cc2 => k_is)
    (case k2 => k_is)
    (case a3 => k_is)
    (case l3 => k_is)
    (case cc3 => k_is)
    (case k3 => k_is)
    (case a4 => k_is)
    (case l4 => k_is)
    (case cc4 => k_is)
    (case k4 => k_is)
    (case a5 => k_is)
    (case l5 => k_is)
    (case cc5 => k_is)
    (case k5 => k_is)
    (case a6 => k_is)
    (case l6 => k_is)
    (case cc6 => k_is)
    (case k6 => k_is)
    (case a7 => k_is)
    (case l7 => k_is)
    (case cc7 => k_is)
    (case k7 => k_is)
    (case a8 => k_is)
    (case l8 => k_is)
    (case cc8 => k_is)
    (case k8 => k_is)
    (case a9 => k_is)
    (case l9 => k_is)
    (case cc9 => k_is)
    (case k9 => k_is)
    (case a10 => k_is)
    (case l10 => k_is)
    (case cc10 => k_is)
    (case k10 => k_is)
    (case a11 => k_is)
    (case l11 => k_is)
    (case cc11 => k_is)
    (case k11 => k_is)
    (case a12 => k_is)
    (case l12 => k_is)
    (case cc12 => k_is)
    (case k12 => k_is)
    (case a13 => k_is)
    (case l13 => k_is)
    (case cc13 => k_is)
    (case k13 => k_is)
    (case a14 => k_is)
    (case l14 => k_is)
    (case cc14 => k_is)
    (case k14 => k_is)
    (case a15 => k_is)
    (case l15 => k_is)
    (case cc15 => k_is)
    (case k15 => k_is)
    (case a16 => k_is)
    (case l16 => k_is)
    (case cc16 => k_is)
    (case k16 => k_is)
    (case a17 => k_is)
    (case l17 => k_is)
    (case cc17 => k_is)
    (case k17 => k_is)
    (case a18 => k_is)
    (case l18 => k_is)
    (case cc18 => k_is)
    (case k18 => k_is)
    (case a19 => k_is)
    (case l19 => k_is)
    (case cc19 => k_is)
    (case k19 => k_is)
    (case a20 => k_is)
    (case l20 => k_is)
    (case cc20 => k_is)
    (case k20 => k_is)
    (case a21 => k_is)
    (case l21 => k_is)
    (case cc21 => k_is)
    (case k21 => k_is)
    (case a22 => k_is)
    (case l22 => k_is)
    (case cc22 => k_is)
    (case k22 => k_is)
    (case a23 => k_is)
    (case l23 => k_is)
    (case cc23 => k_is)
    (case k23 => k_is)
    (case a24 => k_is)
    (case l24 => k_is)
    (case cc24 => k_is)
    (case k24 => k_is)
    (case a25 => k_is)
    (case l25 => k_is)
    (case cc25 => k_is)
    (case k25 => k_is)
    (case a26 => k_is)
    (case l26 => k_is)
    (case cc26 => k_is)
    (case k26 => k_is)
    (case a27 => k_is)
    (case l27 => k_is)
    (case cc27 => k_is)
    (case k27 => k_is)
    (case a28 => k_is)
    (case l28 => k_is)
    (case cc28 => k_is)
    (case k28 => k_is)
    (case a29 => k_is)
    (case l29 => k_is)
    (case cc29 => k_is)
    (case k29 => k_is)
    (case a30 => k_is)
    (case l30 => k_is)
    (case cc30 => k_is)
    (case k30 => k_is)
    (case a31 => k_is)
    (case l31 => k_is)
    (case cc31 => k_is)
    (case k31 => k_is)
    (case a32 => k_is)
    (case l32 => k_is)
    (case cc32 => k_is)
    (case k32 => k_is)
    (case a33 => k_is)
    (case l33 => k_is)
    (case cc33 => k_is)
    (case k33 => k_is)
    (case a34 => k_is)
    (case l34 => k_is)
    (case cc34 => k_is)
    (case k34 => k_is)
    (case a35 => k_is)
    (case l35 => k_is)
    (case cc35 => k_is)
    (case k35 => k_is)
    (case a36 => k_is)
    (case l36 => k_is)
    (case cc36 => k_is)
    (case k36 => k_is)
    (case a37 => k_is)
    (case l37 => k_is)
    (case cc37 => k_is)
    (case k37 => k_is)
    (case a38 => k_is)
    (case l38 => k_is)
    (case cc38 => k_is)
    (case k38 => k_is)
    (case a39 => k_is)
    (case l39 => k_is)
    (case cc39 => k_is)
    (case k39 => k_is)
    (case a40 => k_is)
    (case l40 => k_is)
    (case cc40 => k_is)
    (case k40 => k_is)
    (case a41 => k_is)
    (case l41 => k_is)
    (case cc41 => k_is)
    (case k41 => k_is)
    (case a42 => k_is)
    (case l42 => k_is)
    (case cc42 => k_is)
    (case k42 => k_is)
    (case a43 => k_is)
    (case l43 => k_is)
    (case cc43 => k_is)
    (case k43 => k_is)
    (case a44 => k_is)
    (case l44 => k_is)
    (case cc44 => k_is)
    (case k44 => k_is)
    (case a45 => k_is)
    (case l45 => k_is)
    (case cc45 => k_is)
    (case k45 => k_is)
    (case a46 => k_is)
    (case l46 => k_is)
    (case cc46 => k_is)
    (case k46 => k_is)
    (case a47 => k_is)
    (case l47 => k_is)
    (case cc47 => k_is)
    (case k47 => k_is)
    (case a48 => k_is)
    (case l48 => k_is)
    (case cc48 => k_is)
    (case k48 => k_is)
    (case a49 => k_is)
    (case l49 => k_is)
    (case cc49 => k_is)
    (case k49 => k_is)
    (case a50 => k_is)
    (case l50 => k_is)
    (case cc50 => k_is)
    (case k50 => k_is)
    (case a51 => k_is)
    (case l51 => k_is)
    (case cc51 => k_is)
    (case k51 => k_is)
    (case a52 => k_is)
    (case l52 => k_is)
    (case cc52 => k_is)
    (case k52 => k_is)
    (case a53 => k_is)
    (case l53 => k_is)
    (case cc53 => k_is)
    (case k53 => k_is)
    (case a54 => k_is)
    (case l54 => k_is)
    (case cc54 => k_is)
    (case k54 => k_is)
    (case a55 => k_is)
    (case l55 => k_is)
    (case cc55 => k_is)
    (case k55 => k_is)
    (case plain => exact K16.plain)
