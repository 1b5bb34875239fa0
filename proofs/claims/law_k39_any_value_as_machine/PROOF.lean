import PyProof.Rows.All
import Wide.All
import OpenK.AllK
import Wide.FinOn
import PyProof.EqAt
import PyProof.EqKinds
import PyProof.TupleCall
import HandS.ForMost
import HandS.ForExc
import HandS.Gcd
import HandS.WideBits
import HandS.IsInst
import HandS.ExcInit
import HandS.RaiseMore
import HandS.TryMany
import HandS.Wide
import HandS.TupMul
import HandS.TupAny
import HandS.Lambda
import KE.DatumOrd
import HandS.Conv
import HandS.TupSets
import HandS.ExcField
import HandS.ExcIs
import PyProof.ReprRoads
import PyProof.Rows.IntBool
import HandS.Style
import HandS.Deep
import HandS.Iter
import HandS.Rev
import PyProof.EnumMake
import KE.GoesMore
import HandS.More
import HandS.Comp
import HandS.ExcOwn
import KE.KExcIs
import HandS.Small
import HandS.WordsExc
import HandS.HotCalls
import HandS.ExcInitHot
import HandS.Flow
import HandS.Ends
import PySem.Challenge.RW_whichpaces_k39_any_value_as_machine
set_option Elab.async false
set_option linter.all false
set_option maxRecDepth 100000
set_option maxHeartbeats 4000000
/-! Sh, part A: plain values, their relation to the tracked heap, results. -/
namespace Sh
open PySem PySem.Spec PyProof.Rows L2

/-- a plain value: tuples are trees, lists stand in a store and are told by their number; a locked list is a tree; rep d is the text repr gives of the datum d; dicts stand in the store too (dref), their cell: a mark (true: the keys are tuples), then the entries, each .tup (value :: the key's numbers) -/
inductive C where
  | non | bl (b : Bool) | int (i : Int) | str (x : Str) | tup (xs : List C) | ref (n : Nat) | frz (xs : List C) | rep (d : PyData) | dref (n : Nat)
deriving Inhabited

abbrev Hc := List (List C)
abbrev Sl := List (Option C)

/-- a list that none writes: one that stood before, one of the program's own -/
def FzL (K : PySem.W.Frag) (H : Hp) (a : Addr) (vs : List V) : Prop :=
  (∃ o, H a = some (.frz o (.lst vs))) ∨ ∃ (o : Obj) (its : Array Value) (n : Nat), K.lookup a = some o ∧ o.cls = .type "list" ∧ o.dict = none ∧ o.data = .seq its n ∧ its.size ≤ sizeLine ∧ Vals vs its.toList
theorem FzL.sq {K : PySem.W.Frag} {H : Hp} {a : Addr} {vs : List V} (h : FzL K H a vs) : SqL K H a vs := by
  rcases h with ⟨o, h⟩ | h
  · exact .inl (.inr ⟨o, h⟩)
  · exact .inr h
/-- a list, a dict stands there -/
def IsL (H : Hp) (a : Addr) : Prop := ∃ us, H a = some (.lst us)
def IsD (H : Hp) (a : Addr) : Prop := (∃ kvs, H a = some (.dT kvs)) ∨ ∃ kvs, H a = some (.dK kvs)
mutual
def RV (K : PySem.W.Frag) (m : List Addr) (H : Hp) : C → V → Prop
  | .non, v => v = .non
  | .bl b, v => v = .bl b
  | .int i, v => v = .int i
  | .str x, v => v = .str x
  | .tup cs, v => ∃ a vs, v = .ref a ∧ SqT K H a vs ∧ RVs K m H cs vs
  | .ref n, v => ∃ a, m[n]? = some a ∧ v = .ref a ∧ IsL H a
  | .frz cs, v => ∃ a vs, v = .ref a ∧ FzL K H a vs ∧ RVs K m H cs vs
  | .rep d, v => v = .str d.shown ∧ d.canLay0 = true
  | .dref n, v => ∃ a, m[n]? = some a ∧ v = .ref a ∧ IsD H a
def RVs (K : PySem.W.Frag) (m : List Addr) (H : Hp) : List C → List V → Prop
  | [], vs => vs = []
  | c :: cs, vs => ∃ v r, vs = v :: r ∧ RV K m H c v ∧ RVs K m H cs r
end

/-- what stays from one moment to a later one -/
structure Ext (K : PySem.W.Frag) (m : List Addr) (H : Hp) (m' : List Addr) (H' : Hp) : Prop where
  pre : ∀ (n : Nat) (a : Addr), m[n]? = some a → m'[n]? = some a
  fr : ∀ b o, H b = some o → (∀ ps, o ≠ .tbl ps) → b ∉ m → b ∉ m' ∧ H' b = some o
  tu : ∀ a xs, SqT K H a xs → SqT K H' a xs
  fz : ∀ a o u, H a = some (.frz o u) → H' a = some (.frz o u)
  tb : ∀ P q, P ∉ m → LamX.TabS H P q → P ∉ m' ∧ LamX.TabS H' P q
  kl : ∀ a, IsL H a → IsL H' a
  kd : ∀ a, IsD H a → IsD H' a
theorem tabS_upd {H : Hp} {P b : Addr} {q : Str} {x : HO} (t : LamX.TabS H P q) (hb : ∀ o, H b = some o → (∃ us, o = .lst us) ∨ (∃ us, o = .dT us) ∨ ∃ us, o = .dK us) : LamX.TabS (upd H b x) P q := by
  obtain ⟨ps, h1, h2, h3⟩ := t
  refine ⟨ps, ?_, h2, fun pos cv hc => ?_⟩
  · rw [upd_ne (fun z => by rw [z] at h1; rcases hb _ h1 with ⟨us, e⟩ | ⟨us, e⟩ | ⟨us, e⟩ <;> cases e)]; exact h1
  · obtain ⟨c, e1, e2⟩ := h3 pos cv hc
    exact ⟨c, e1, by rw [upd_ne (fun z => by rw [z] at e2; rcases hb _ e2 with ⟨us, e⟩ | ⟨us, e⟩ | ⟨us, e⟩ <;> cases e)]; exact e2⟩

section
variable {K : PySem.W.Frag} {m m' m2 : List Addr} {H H' H2 : Hp}
theorem Ext.refl : Ext K m H m H := ⟨fun _ _ h => h, fun _ _ h _ n => ⟨n, h⟩, fun _ _ h => h, fun _ _ _ h => h, fun _ _ n t => ⟨n, t⟩, fun _ h => h, fun _ h => h⟩
theorem Ext.trans (a : Ext K m H m' H') (b : Ext K m' H' m2 H2) : Ext K m H m2 H2 :=
  ⟨fun n x h => b.pre n x (a.pre n x h), fun x o h d n => let ⟨n1, h1⟩ := a.fr x o h d n; b.fr x o h1 d n1, fun x xs h => b.tu x xs (a.tu x xs h), fun x o u h => b.fz x o u (a.fz x o u h), fun P q n t => let ⟨n1, t1⟩ := a.tb P q n t; b.tb P q n1 t1, fun x h => b.kl x (a.kl x h), fun x h => b.kd x (a.kd x h)⟩

mutual
theorem RV.ext (e : Ext K m H m' H') : ∀ {c : C} {v : V}, RV K m H c v → RV K m' H' c v
  | .non, _, h => h
  | .bl _, _, h => h
  | .int _, _, h => h
  | .str _, _, h => h
  | .tup cs, _, h => by
    obtain ⟨a, vs, e1, e2, e3⟩ := h
    exact ⟨a, vs, e1, e.tu _ _ e2, RVs.ext e e3⟩
  | .ref n, _, h => by
    obtain ⟨a, e1, e2, e3⟩ := h
    exact ⟨a, e.pre _ _ e1, e2, e.kl _ e3⟩
  | .frz cs, _, h => by
    obtain ⟨a, vs, e1, e2, e3⟩ := h
    exact ⟨a, vs, e1, e2.imp (fun ⟨o, q⟩ => ⟨o, e.fz _ _ _ q⟩) id, RVs.ext e e3⟩
  | .rep d, _, h => h
  | .dref n, _, h => by
    obtain ⟨a, e1, e2, e3⟩ := h
    exact ⟨a, e.pre _ _ e1, e2, e.kd _ e3⟩
theorem RVs.ext (e : Ext K m H m' H') : ∀ {cs : List C} {vs : List V}, RVs K m H cs vs → RVs K m' H' cs vs
  | [], _, h => h
  | c :: cs, _, h => by
    obtain ⟨v, r, e1, e2, e3⟩ := h
    exact ⟨v, r, e1, RV.ext e e2, RVs.ext e e3⟩
end

theorem RVs.length : ∀ {cs : List C} {vs : List V}, RVs K m H cs vs → cs.length = vs.length
  | [], _, h => by cases h; rfl
  | c :: cs, _, h => by
    obtain ⟨v, r, rfl, _, e3⟩ := h
    simp [RVs.length e3]
theorem RVs.get : ∀ {cs : List C} {vs : List V} {i : Nat} {c : C}, RVs K m H cs vs → cs[i]? = some c → ∃ v, vs[i]? = some v ∧ RV K m H c v
  | [], _, _, _, _, h => by simp at h
  | c :: cs, _, 0, x, h, q => by
    obtain ⟨v, r, rfl, e2, e3⟩ := h
    simp at q
    subst q
    exact ⟨v, rfl, e2⟩
  | c :: cs, _, i + 1, x, h, q => by
    obtain ⟨v, r, rfl, e2, e3⟩ := h
    obtain ⟨w, h1, h2⟩ := RVs.get (i := i) e3 (by simpa using q)
    exact ⟨w, by simpa using h1, h2⟩
theorem RVs.append : ∀ {cs ds : List C} {vs ws : List V}, RVs K m H cs vs → RVs K m H ds ws → RVs K m H (cs ++ ds) (vs ++ ws)
  | [], _, _, _, h, q => by cases h; exact q
  | c :: cs, _, _, _, h, q => by
    obtain ⟨v, r, rfl, e2, e3⟩ := h
    exact ⟨v, r ++ _, rfl, e2, RVs.append e3 q⟩
theorem RVs.set : ∀ {cs : List C} {vs : List V} (i : Nat) {c : C} {v : V}, RVs K m H cs vs → RV K m H c v → RVs K m H (cs.set i c) (vs.set i v)
  | [], _, _, _, _, h, _ => by cases h; rfl
  | _ :: cs, _, 0, _, _, h, q => by
    obtain ⟨v, r, rfl, e2, e3⟩ := h
    exact ⟨_, _, rfl, q, e3⟩
  | _ :: cs, _, i + 1, _, _, h, q => by
    obtain ⟨v, r, rfl, e2, e3⟩ := h
    exact ⟨_, _, rfl, e2, RVs.set i e3 q⟩
theorem RVs.one {c : C} {v : V} (h : RV K m H c v) : RVs K m H [c] [v] := ⟨v, [], rfl, h, rfl⟩
theorem RVs.take : ∀ {cs : List C} {vs : List V} (n : Nat), RVs K m H cs vs → RVs K m H (cs.take n) (vs.take n)
  | _, _, 0, _ => rfl
  | [], _, n + 1, h => by cases h; rfl
  | c :: cs, _, n + 1, h => by
    obtain ⟨v, r, rfl, e2, e3⟩ := h
    exact ⟨v, r.take n, rfl, e2, RVs.take n e3⟩
theorem RVs.drop : ∀ {cs : List C} {vs : List V} (n : Nat), RVs K m H cs vs → RVs K m H (cs.drop n) (vs.drop n)
  | _, _, 0, h => h
  | [], _, n + 1, h => by cases h; rfl
  | c :: cs, _, n + 1, h => by
    obtain ⟨v, r, rfl, e2, e3⟩ := h
    exact RVs.drop n e3
theorem RVs.reverse {cs : List C} {vs : List V} (h : RVs K m H cs vs) : RVs K m H cs.reverse vs.reverse := by
  induction cs generalizing vs with
  | nil => cases h; rfl
  | cons c cs ih =>
    obtain ⟨v, r, rfl, e2, e3⟩ := h
    rw [List.reverse_cons, List.reverse_cons]
    exact RVs.append (ih e3) (RVs.one e2)
end

/-- a dict's entries: value, then the key's numbers -/
def DTs (K : PySem.W.Frag) (m : List Addr) (H : Hp) : List C → List (List Key × V) → Prop
  | [], kvs => kvs = []
  | e :: es, kvs => ∃ c ns v r, e = .tup (c :: List.map C.int ns) ∧ kvs = (ns.map Sum.inl, v) :: r ∧ RV K m H c v ∧ DTs K m H es r
def DKs (K : PySem.W.Frag) (m : List Addr) (H : Hp) : List C → List (Key × V) → Prop
  | [], kvs => kvs = []
  | e :: es, kvs => ∃ c i v r, e = .tup [c, .int i] ∧ kvs = (Sum.inl i, v) :: r ∧ RV K m H c v ∧ DKs K m H es r
def DCell (K : PySem.W.Frag) (m : List Addr) (H : Hp) (cs : List C) (a : Addr) : Prop :=
  (∃ es kvs, cs = .bl true :: es ∧ H a = some (.dT kvs) ∧ DTs K m H es kvs) ∨ ∃ es kvs, cs = .bl false :: es ∧ H a = some (.dK kvs) ∧ DKs K m H es kvs
section
variable {K : PySem.W.Frag} {m m' : List Addr} {H H' : Hp}
theorem DTs.ext (e : Ext K m H m' H') : ∀ {es : List C} {kvs : List (List Key × V)}, DTs K m H es kvs → DTs K m' H' es kvs
  | [], _, h => h
  | _ :: es, _, h => by
    obtain ⟨c, ns, v, r, e1, e2, e3, e4⟩ := h
    exact ⟨c, ns, v, r, e1, e2, e3.ext e, DTs.ext e e4⟩
theorem DKs.ext (e : Ext K m H m' H') : ∀ {es : List C} {kvs : List (Key × V)}, DKs K m H es kvs → DKs K m' H' es kvs
  | [], _, h => h
  | _ :: es, _, h => by
    obtain ⟨c, ns, v, r, e1, e2, e3, e4⟩ := h
    exact ⟨c, ns, v, r, e1, e2, e3.ext e, DKs.ext e e4⟩
theorem DCell.ext {cs : List C} {a : Addr} (h : DCell K m H cs a) (e : Ext K m H m' H') (ha : H' a = H a) : DCell K m' H' cs a := by
  rcases h with ⟨es, kvs, h1, h2, h3⟩ | ⟨es, kvs, h1, h2, h3⟩
  · exact .inl ⟨es, kvs, h1, ha.trans h2, h3.ext e⟩
  · exact .inr ⟨es, kvs, h1, ha.trans h2, h3.ext e⟩
theorem DCell.isD {cs : List C} {a : Addr} (h : DCell K m H cs a) : IsD H a := by
  rcases h with ⟨es, kvs, h1, h2, h3⟩ | ⟨es, kvs, h1, h2, h3⟩
  · exact .inl ⟨_, h2⟩
  · exact .inr ⟨_, h2⟩
theorem IsL.notD {a : Addr} (h : IsL H a) (d : IsD H a) : False := by
  obtain ⟨us, h⟩ := h
  rcases d with ⟨_, d⟩ | ⟨_, d⟩ <;> rw [h] at d <;> cases d
end
/-- the lists and dicts of the store stand at the addresses m -/
structure Rl (K : PySem.W.Frag) (m : List Addr) (h : Hc) (H : Hp) : Prop where
  len : m.length = h.length
  nd : m.Nodup
  at_ : ∀ (n : Nat) (a : Addr) (cs : List C), m[n]? = some a → h[n]? = some cs → (∃ vs, H a = some (.lst vs) ∧ RVs K m H cs vs) ∨ DCell K m H cs a
/-- the slots -/
structure RS (K : PySem.W.Frag) (m : List Addr) (H : Hp) (sl : Sl) (σ : L2.St) : Prop where
  len : sl.length = σ.length
  at_ : ∀ (i : Nat) (c : C), sl[i]? = some (some c) → ∃ v, σ[i]? = some (some v) ∧ RV K m H c v

section
variable {K : PySem.W.Frag} {m m' m2 : List Addr} {H H' H2 : Hp} {h : Hc} {sl : Sl} {σ : L2.St}
theorem RS.ext (r : RS K m H sl σ) (e : Ext K m H m' H') : RS K m' H' sl σ := ⟨r.len, fun i c q => let ⟨v, a, b⟩ := r.at_ i c q; ⟨v, a, b.ext e⟩⟩
theorem RS.set (r : RS K m H sl σ) (i : Nat) {c : C} {v : V} (q : RV K m H c v) : RS K m H (sl.set i (some c)) (σ.set i (some v)) := by
  refine ⟨by simp [r.len], fun j d e => ?_⟩
  by_cases hj : i = j
  · subst hj
    by_cases hi : i < sl.length
    · rw [List.getElem?_set_self hi] at e
      cases e
      exact ⟨v, List.getElem?_set_self (r.len ▸ hi), q⟩
    · rw [List.getElem?_eq_none (by simpa using hi)] at e
      cases e
  · rw [List.getElem?_set_ne hj] at e
    rw [List.getElem?_set_ne hj]
    exact r.at_ j d e
theorem RS.weak (r : RS K m H sl σ) {σ' : L2.St} {sl' : Sl} (hl : sl'.length = sl.length) (hl2 : σ'.length = σ.length) (hs : ∀ (i : Nat) (c : C), sl'[i]? = some (some c) → sl[i]? = some (some c) ∧ ∀ v, σ[i]? = some (some v) → σ'[i]? = some (some v)) : RS K m H sl' σ' :=
  ⟨by rw [hl, hl2, r.len], fun i c q => by
    obtain ⟨q1, q2⟩ := hs i c q
    obtain ⟨v, a, b⟩ := r.at_ i c q1
    exact ⟨v, q2 v a, b⟩⟩
/-- a new object that is no list of the store -/
theorem Ext.new {p : Addr} {o : HO} (hn : H p = none) : Ext K m H m (upd H p o) := by
  refine ⟨fun _ _ q => q, fun b u q _ n => ⟨n, by rw [upd_ne (ne_of_none q hn)]; exact q⟩, fun a xs q => ?_, fun a o u q => by rw [upd_ne (ne_of_none q hn)]; exact q, fun P q n t => ⟨n, tabS_upd t fun o e => by rw [hn] at e; cases e⟩, fun a ⟨us, q⟩ => ⟨us, by rw [upd_ne (ne_of_none q hn)]; exact q⟩, fun a q => ?_⟩
  · rcases q with (q | ⟨o, q⟩) | q
    · exact .inl (.inl (by rw [upd_ne (ne_of_none q hn)]; exact q))
    · exact .inl (.inr ⟨o, by rw [upd_ne (ne_of_none q hn)]; exact q⟩)
    · exact .inr q
  · rcases q with ⟨us, q⟩ | ⟨us, q⟩
    · exact .inl ⟨us, by rw [upd_ne (ne_of_none q hn)]; exact q⟩
    · exact .inr ⟨us, by rw [upd_ne (ne_of_none q hn)]; exact q⟩
theorem Rl.new {p : Addr} {o : HO} (r : Rl K m h H) (hn : H p = none) : Rl K m h (upd H p o) := by
  refine ⟨r.len, r.nd, fun n a cs e1 e2 => ?_⟩
  rcases r.at_ n a cs e1 e2 with ⟨vs, q1, q2⟩ | q
  · exact .inl ⟨vs, by rw [upd_ne (ne_of_none q1 hn)]; exact q1, q2.ext (Ext.new hn)⟩
  · exact .inr (q.ext (Ext.new hn) (upd_ne fun z => by rcases q.isD with ⟨_, d⟩ | ⟨_, d⟩ <;> rw [z, hn] at d <;> cases d))
theorem Rl.out (r : Rl K m h H) {p : Addr} (hn : H p = none) : p ∉ m := fun hm => by
  obtain ⟨n, hn'⟩ := List.getElem?_of_mem hm
  have hl : n < h.length := by rw [← r.len]; exact (List.getElem?_eq_some_iff.mp hn').1
  rcases r.at_ n p h[n] hn' (List.getElem?_eq_getElem hl) with ⟨vs, q, _⟩ | q
  · rw [hn] at q
    cases q
  · rcases q.isD with ⟨_, d⟩ | ⟨_, d⟩ <;> rw [hn] at d <;> cases d
/-- a new list of the store -/
theorem Ext.newL {p : Addr} {o : HO} (hn : H p = none) : Ext K m H (m ++ [p]) (upd H p o) := by
  have e := Ext.new (K := K) (m := m) (o := o) hn
  refine ⟨fun n a q => ?_, fun b u q d n => ?_, e.tu, e.fz, fun P q n t => ⟨fun z => ?_, (e.tb P q n t).2⟩, e.kl, e.kd⟩
  · rw [List.getElem?_append_left (List.getElem?_eq_some_iff.mp q).1]
    exact q
  · refine ⟨fun z => ?_, (e.fr b u q d n).2⟩
    rcases List.mem_append.mp z with z | z
    · exact n z
    · have : b = p := by simpa using z
      rw [this, hn] at q
      cases q
  · rcases List.mem_append.mp z with z | z
    · exact n z
    · have : P = p := by simpa using z
      obtain ⟨ps, h1, _⟩ := t
      rw [this, hn] at h1
      cases h1
theorem Rl.newO {p : Addr} {cs : List C} {o : HO} (r : Rl K m h H) (hn : H p = none) (q : (∃ vs, upd H p o p = some (.lst vs) ∧ RVs K (m ++ [p]) (upd H p o) cs vs) ∨ DCell K (m ++ [p]) (upd H p o) cs p) : Rl K (m ++ [p]) (h ++ [cs]) (upd H p o) := by
  refine ⟨by simp [r.len], ?_, fun n a ds e1 e2 => ?_⟩
  · refine List.nodup_append.mpr ⟨r.nd, by simp, fun a ha b hb => ?_⟩
    have : b = p := by simpa using hb
    subst this
    rintro rfl
    exact r.out hn ha
  · by_cases hl : n < m.length
    · rw [List.getElem?_append_left hl] at e1
      rw [List.getElem?_append_left (r.len ▸ hl)] at e2
      rcases r.at_ n a ds e1 e2 with ⟨ws, q1, q2⟩ | q
      · exact .inl ⟨ws, by rw [upd_ne (ne_of_none q1 hn)]; exact q1, q2.ext (Ext.newL hn)⟩
      · exact .inr (q.ext (Ext.newL hn) (upd_ne fun z => by rcases q.isD with ⟨_, d⟩ | ⟨_, d⟩ <;> rw [z, hn] at d <;> cases d))
    · have hn' : n = m.length := by
        have := (List.getElem?_eq_some_iff.mp e1).1
        simp at this
        omega
      subst hn'
      rw [List.getElem?_append_right (Nat.le_refl _)] at e1
      rw [r.len, List.getElem?_append_right (Nat.le_refl _)] at e2
      simp at e1 e2
      subst e1 e2
      exact q
theorem Rl.newL {p : Addr} {cs : List C} {vs : List V} (r : Rl K m h H) (hn : H p = none) (q : RVs K m H cs vs) : Rl K (m ++ [p]) (h ++ [cs]) (upd H p (.lst vs)) :=
  r.newO hn (.inl ⟨vs, upd_same, q.ext (Ext.newL hn)⟩)
theorem Rl.newD {p : Addr} (r : Rl K m h H) (hn : H p = none) : Rl K (m ++ [p]) (h ++ [[.bl true]]) (upd H p (.dT [])) :=
  r.newO hn (.inr (.inl ⟨[], [], rfl, upd_same, rfl⟩))
/-- a list of the store is written -/
theorem Ext.writeO {a : Addr} {u o : HO} (ha : a ∈ m) (hv : H a = some u) (nt : ∀ vs, u ≠ .tup vs) (nf : ∀ x y, u ≠ .frz x y) (tb : (∃ us, u = .lst us) ∨ (∃ us, u = .dT us) ∨ ∃ us, u = .dK us)
    (kl : (∃ us, u = .lst us) → ∃ us, o = .lst us) (kd : ((∃ us, u = .dT us) ∨ ∃ us, u = .dK us) → ((∃ us, o = .dT us) ∨ ∃ us, o = .dK us)) : Ext K m H m (upd H a o) := by
  have ne : ∀ {b : Addr} {x : HO}, H b = some x → x ≠ u → b ≠ a := fun {b x} q d z => by
    rw [z, hv] at q
    exact d (Option.some.inj q).symm
  refine ⟨fun _ _ q => q, fun b x q _ n => ⟨n, by rw [upd_ne (fun z : b = a => n (by rw [z]; exact ha))]; exact q⟩, fun b xs q => ?_, fun b x y q => by rw [upd_ne (ne q (fun z => nf _ _ z.symm))]; exact q,
    fun P q n t => ⟨n, tabS_upd t fun x e => by rw [hv] at e; cases e; exact tb⟩, fun b q => ?_, fun b q => ?_⟩
  · rcases q with (q | ⟨x, q⟩) | q
    · exact .inl (.inl (by rw [upd_ne (ne q (fun z => nt _ z.symm))]; exact q))
    · exact .inl (.inr ⟨x, by rw [upd_ne (ne q (fun z => nf _ _ z.symm))]; exact q⟩)
    · exact .inr q
  · by_cases hb : b = a
    · subst hb
      obtain ⟨us, q⟩ := q
      rw [hv] at q
      obtain ⟨ws, rfl⟩ := kl ⟨us, Option.some.inj q⟩
      exact ⟨ws, upd_same⟩
    · obtain ⟨us, q⟩ := q
      exact ⟨us, by rw [upd_ne hb]; exact q⟩
  · by_cases hb : b = a
    · subst hb
      have hd : (∃ us, u = .dT us) ∨ ∃ us, u = .dK us := by
        rcases q with ⟨us, q⟩ | ⟨us, q⟩ <;> rw [hv] at q
        · exact .inl ⟨us, Option.some.inj q⟩
        · exact .inr ⟨us, Option.some.inj q⟩
      rcases kd hd with ⟨ws, rfl⟩ | ⟨ws, rfl⟩
      · exact .inl ⟨ws, upd_same⟩
      · exact .inr ⟨ws, upd_same⟩
    · rcases q with ⟨us, q⟩ | ⟨us, q⟩
      · exact .inl ⟨us, by rw [upd_ne hb]; exact q⟩
      · exact .inr ⟨us, by rw [upd_ne hb]; exact q⟩
theorem Ext.write {a : Addr} {vs ws : List V} (ha : a ∈ m) (hv : H a = some (.lst vs)) : Ext K m H m (upd H a (.lst ws)) :=
  Ext.writeO ha hv (fun _ z => by cases z) (fun _ _ z => by cases z) (.inl ⟨vs, rfl⟩) (fun _ => ⟨ws, rfl⟩) (fun z => by rcases z with ⟨_, z⟩ | ⟨_, z⟩ <;> cases z)
theorem Ext.writeD {a : Addr} {vs ws : List (List Key × V)} (ha : a ∈ m) (hv : H a = some (.dT vs)) : Ext K m H m (upd H a (.dT ws)) :=
  Ext.writeO ha hv (fun _ z => by cases z) (fun _ _ z => by cases z) (.inr (.inl ⟨vs, rfl⟩)) (fun z => by obtain ⟨_, z⟩ := z; cases z) (fun _ => .inl ⟨ws, rfl⟩)
theorem Rl.writeO {n : Nat} {a : Addr} {cs : List C} {o : HO} (r : Rl K m h H) (hm : m[n]? = some a) (ex : Ext K m H m (upd H a o)) (q : (∃ vs, upd H a o a = some (.lst vs) ∧ RVs K m (upd H a o) cs vs) ∨ DCell K m (upd H a o) cs a) : Rl K m (h.set n cs) (upd H a o) := by
  have ha : a ∈ m := List.mem_of_getElem? hm
  refine ⟨by simp [r.len], r.nd, fun k b ds e1 e2 => ?_⟩
  by_cases hk : n = k
  · subst hk
    rw [hm] at e1
    cases e1
    have hl : n < h.length := by rw [← r.len]; exact (List.getElem?_eq_some_iff.mp hm).1
    rw [List.getElem?_set_self hl] at e2
    cases e2
    exact q
  · rw [List.getElem?_set_ne hk] at e2
    have hb : b ≠ a := by
      rintro rfl
      obtain ⟨l1, x1⟩ := List.getElem?_eq_some_iff.mp hm
      obtain ⟨l2, x2⟩ := List.getElem?_eq_some_iff.mp e1
      exact hk ((List.getElem_inj r.nd).mp (x1.trans x2.symm))
    rcases r.at_ k b ds e1 e2 with ⟨us, q1, q2⟩ | q
    · exact .inl ⟨us, by rw [upd_ne hb]; exact q1, q2.ext ex⟩
    · exact .inr (q.ext ex (upd_ne hb))
theorem Rl.write {n : Nat} {a : Addr} {cs : List C} {vs ws : List V} (r : Rl K m h H) (hm : m[n]? = some a) (hv : H a = some (.lst vs)) (q : RVs K m H cs ws) : Rl K m (h.set n cs) (upd H a (.lst ws)) :=
  r.writeO hm (Ext.write (List.mem_of_getElem? hm) hv) (.inl ⟨ws, upd_same, q.ext (Ext.write (List.mem_of_getElem? hm) hv)⟩)
theorem Rl.get (r : Rl K m h H) {n : Nat} {a : Addr} (hm : m[n]? = some a) (hl : IsL H a) : ∃ cs vs, h[n]? = some cs ∧ H a = some (.lst vs) ∧ RVs K m H cs vs := by
  have hn : n < h.length := by rw [← r.len]; exact (List.getElem?_eq_some_iff.mp hm).1
  rcases r.at_ n a _ hm (List.getElem?_eq_getElem hn) with ⟨vs, q1, q2⟩ | q
  · exact ⟨_, vs, List.getElem?_eq_getElem hn, q1, q2⟩
  · exact (hl.notD q.isD).elim
theorem Rl.get' (r : Rl K m h H) {n : Nat} {a : Addr} {cs : List C} (hm : m[n]? = some a) (hl : IsL H a) (hc : h[n]? = some cs) : ∃ vs, H a = some (.lst vs) ∧ RVs K m H cs vs := by
  obtain ⟨ds, vs, e1, e2, e3⟩ := r.get hm hl
  rw [e1] at hc
  cases hc
  exact ⟨vs, e2, e3⟩
theorem Rl.getD (r : Rl K m h H) {n : Nat} {a : Addr} (hm : m[n]? = some a) (hd : IsD H a) : ∃ cs, h[n]? = some cs ∧ DCell K m H cs a := by
  have hn : n < h.length := by rw [← r.len]; exact (List.getElem?_eq_some_iff.mp hm).1
  rcases r.at_ n a _ hm (List.getElem?_eq_getElem hn) with ⟨vs, q1, q2⟩ | q
  · exact (IsL.notD ⟨vs, q1⟩ hd).elim
  · exact ⟨_, List.getElem?_eq_getElem hn, q⟩
end

/-- the end of an expression: a value, an exception by its number with its fields' values, or out of what is told here -/
inductive R (α : Type) where
  | ok (a : α) (h : Hc) | err (k : Nat) (xs : List C) (h : Hc) | bad
def R.bind {α β : Type} : R α → (α → Hc → R β) → R β
  | .ok a h, f => f a h
  | .err k xs h, _ => .err k xs h
  | .bad, _ => .bad

/-- exceptions' classes by number: where the class stands, its fields (the last one stored ahead) -/
abbrev ETab := Nat → Option (Addr × List Str)
/-- an exception of the class cls with its own dict d, as number k with the fields' values xs (in the order of storing) -/
def RX (et : ETab) (K : PySem.W.Frag) (m : List Addr) (H : Hp) (k : Nat) (xs : List C) (cls : Value) (d : Option Addr) : Prop :=
  ∃ A fs vs, et k = some (A, fs) ∧ cls = .ref A ∧ fs.length = vs.length ∧ RVs K m H xs vs ∧ ((fs = [] ∧ d = none) ∨ ∃ dd, d = some dd ∧ H dd = some (.xd (fs.zip vs).reverse) ∧ dd ∉ m)

section
variable {et : ETab} {K : PySem.W.Frag} {α β : Type}
theorem RX.ext {m m' : List Addr} {H H' : Hp} {k : Nat} {xs : List C} {cls : Value} {d : Option Addr} (x : RX et K m H k xs cls d) (e : Ext K m H m' H') : RX et K m' H' k xs cls d := by
  obtain ⟨A, fs, vs, h1, h2, h3, h4, h5⟩ := x
  refine ⟨A, fs, vs, h1, h2, h3, h4.ext e, ?_⟩
  rcases h5 with h5 | ⟨dd, e1, e2, e3⟩
  · exact .inl h5
  · obtain ⟨n, q⟩ := e.fr dd _ e2 (fun _ z => by cases z) e3
    exact .inr ⟨dd, e1, q, n⟩
/-- what holds behind: rel relates the plain result with the one of the layer; W: the wish about exceptions -/
def Post (et : ETab) (K : PySem.W.Frag) (W : Value → Option Addr → Hp → Prop) (m : List Addr) (H : Hp) (rel : List Addr → Hp → α → β → Prop) (Q : β → Hp → Prop) : R α → Prop
  | .ok a h' => ∀ m' H' v, Ext K m H m' H' → Rl K m' h' H' → rel m' H' a v → Q v H'
  | .err k xs h' => ∀ m' H' cls d, Ext K m H m' H' → Rl K m' h' H' → RX et K m' H' k xs cls d → W cls d H'
  | .bad => False
variable {W : Value → Option Addr → Hp → Prop} {m m' : List Addr} {H H' : Hp} {γ δ : Type} {rel : List Addr → Hp → α → β → Prop} {rel2 : List Addr → Hp → γ → δ → Prop} {Q : β → Hp → Prop} {Q2 : δ → Hp → Prop}
theorem Post.ext {r : R α} (p : Post et K W m H rel Q r) (e : Ext K m H m' H') : Post et K W m' H' rel Q r := by
  cases r with
  | ok a h => exact fun m2 H2 v x => p m2 H2 v (e.trans x)
  | err k xs h => exact fun m2 H2 c d x => p m2 H2 c d (e.trans x)
  | bad => exact p
theorem Post.bind {r : R α} {f : α → Hc → R γ} (p : Post et K W m H rel2 Q2 (r.bind f))
    (g : ∀ c h1, r = .ok c h1 → ∀ m1 H1 v, Ext K m H m1 H1 → Rl K m1 h1 H1 → rel m1 H1 c v → Post et K W m1 H1 rel2 Q2 (f c h1) → Q v H1) : Post et K W m H rel Q r := by
  cases r with
  | ok a h => exact fun m1 H1 v x rl rv => g a h rfl m1 H1 v x rl rv (Post.ext p x)
  | err k xs h => exact p
  | bad => exact p
theorem Post.imp {r : R α} {Q' : β → Hp → Prop} (p : Post et K W m H rel Q r) (g : ∀ m1 H1 c v h1, r = .ok c h1 → Ext K m H m1 H1 → Rl K m1 h1 H1 → rel m1 H1 c v → Q v H1 → Q' v H1) : Post et K W m H rel Q' r := by
  cases r with
  | ok a h => exact fun m1 H1 v x rl rv => g m1 H1 a v h rfl x rl rv (p m1 H1 v x rl rv)
  | err k xs h => exact p
  | bad => exact p
end
end Sh
set_option Elab.async false
set_option linter.all false
set_option maxRecDepth 100000
set_option maxHeartbeats 4000000
/-! Sh, part Ds: dicts whose keys are rows of whole numbers: an entry by any tuple, the keys sorted; rows of whole numbers compared. -/
namespace Sh
open PySem PySem.Spec PyProof.Rows L2

section
variable {X : Cx} {pins : List (Addr × Obj)} {σ : L2.St} {H : Hp} {s : Shared} {a : Addr}
theorem key_ofS {ks : List Key} (I : Inv X pins σ H s) (e : SqT X.K H a (ks.map kV)) : (tupleKind (mixKind X.prog X.w)).is s.heap ks a := by
  obtain ⟨its, r, ⟨o, h1, h2, n, h3⟩, _⟩ := I.tuple e
  exact ⟨o, its.toArray, n, h1, h2, h3, by simpa using items_are r⟩
/-- what the dict at a holds at the tuple y -/
def DGetS (K : PySem.W.Frag) (H : Hp) (a : Addr) (y : V) (r : Option V) : Prop :=
  ∃ kvs k b, H a = some (.dT kvs) ∧ y = .ref b ∧ SqT K H b (k.map kV) ∧ r = valV kvs k
theorem d_getItemS {u : Value} {v y : V} {A : Around} {E : Value → Shared → Prop} {Q : Value → Shared → Prop} (hu : A.units + 1 < cLine) (I : Inv X pins σ H s) (g : DGetS X.K H a y (some v)) (ry : RelV y u) (h : ∀ w' s', Inv X pins σ H s' → RelV v w' → Q w' s') :
    wpAny (model X.prog X.w) A (getItem (.ref a) u) Q E s := by
  obtain ⟨kvs, k, b, e, ey, eb, l⟩ := g
  subst ey
  cases (show u = Value.ref b from ry)
  obtain ⟨z, hd, xs, rel, dd⟩ := dt_of I.hok e
  obtain ⟨w', hw, rw'⟩ := RelO.some_of (v := v) (o := (atKey xs k).map (·.2)) (by rw [l]; exact rel.val k)
  obtain ⟨p, hp, hp2⟩ := Option.map_eq_some_iff.mp hw
  refine wpAny_getItem_heap (tupleKind_room_in1 hu) (key_ofS I eb) dd hp ?_
  rw [hp2]
  exact h w' _ (I.tok _) rw'
def tDGetS (K : PySem.W.Frag) (td ty : TE) : TE := fun σ H Q => td σ H fun x H1 => ty σ H1 fun y H2 => ∃ a v, x = .ref a ∧ DGetS K H2 a y (some v) ∧ Q v H2
theorem pe_dgetS {o i : Expr} {pos : Pos} {td ty : TE} (hu : X.A.units + 1 < cLine) (ho : PE X o td) (hi : PE X i ty) (hs : NoSl i) : PE X (.Subscript o i pos) (tDGetS X.K td ty) := by
  refine ⟨fun pins s σ H Q I h => ?_⟩
  refine subD_of PySem.F.slot_dict_getitem.lookup hs (thn (ho.run pins s σ H _ I h) fun u s1 ⟨x, H1, I1, rx, q1⟩ => thn (hi.run pins s1 σ H1 _ I1 q1) fun iv s2 ⟨y, H2, I2, ry, a, v, ex, g, q2⟩ => ?_)
  subst ex
  obtain rfl : u = Value.ref a := rx
  have ty' : s2.TypeIs (.ref a) "dict" := by
    obtain ⟨kvs, k, b, e, _, _, _⟩ := g
    obtain ⟨_, _, xs, _, dd⟩ := dt_of I2.hok e
    exact dd.typeIs
  exact ⟨ty', d_getItemS hu I2 g ry fun w' s3 I3 rw' => ⟨v, H2, I3, rw', q2⟩⟩
end

/-! ### sorted(d) -/
section
variable {X : Cx}
/-- sorted(d) of a dict with fewer than 64 keys, all rows of d whole numbers in [0, B) -/
theorem call_sortedDT {d : Nat} {B : Int} (hc : X.calm = true) (hd : 1 ≤ d) : CallR X (.builtin "sorted") (fun xs H Q => ∃ (a : Addr) (kvs : List (List Key × V)) (nss : List (List Int)), xs = [V.ref a] ∧ H a = some (.dT kvs) ∧
    kvs.map (·.1) = nss.map (fun ns => ns.map Sum.inl) ∧ nss.length < 64 ∧ (∀ ns ∈ nss, ns.length = d ∧ TS.Bd B ns) ∧
    ∀ (mss : List (List Int)) (bs : List Addr) (p : Addr), mss.Perm nss → mss.Pairwise (fun m n => TS.code B m ≤ TS.code B n) → Paired (fun ms b => H b = some (.tup (ms.map V.int))) mss bs → H p = none → Q (.ref p) (upd H p (.lst (bs.map V.ref)))) := by
  intro pins s σ H xs us Q I r h
  obtain ⟨a, kvs, nss, rfl, hdt0, hks, h64, hB, q⟩ := h
  obtain ⟨u, rfl, rx⟩ := r.one
  cases rx
  obtain ⟨z, hs, ks, pr, o, es, ep, ho, hx, hdt, he, hn⟩ := (show ObjOk X.prog X.w H s.heap a (.dT kvs) from I.hok a _ hdt0)
  have l1 : es.size = ks.length := size_of_entries he
  have l2 : kvs.length = ks.length := Paired.length pr
  have l3 : kvs.length = nss.length := by
    have e := congrArg List.length hks
    simpa using e
  refine Calls.call_function_entry PyProof.Rows.kind_sorted PyProof.Rows.plain_sorted PyProof.Rows.entry_sorted (PyProof.Rows.args_sorted1 _) ?_
  unfold Builtin.«sorted»
  refine wpAny_bind (m := checkCount "sorted" 1 1 _) (wpAny_pure ?_)
  refine wpAny_bind (PySem.W.kdu_collect (A := X.A.in1) (kdl_raw hs hx hdt) (I.ok.hd hc) ho (by rw [sizeLine_eq]; omega) fun h' tk acc kp hacc => ?_)
  have ea : acc.toList = ks.map fun x => Value.ref x.2.1 := by
    have hl : acc.toList.length = ks.length := by rw [Array.length_toList, hacc.1]; exact l1
    apply List.ext_getElem?
    intro j
    rw [List.getElem?_map]
    cases hj : acc.toList[j]? with
    | none =>
      have h1 := List.getElem?_eq_none_iff.mp hj
      rw [List.getElem?_eq_none (by omega)]
      all_goals rfl
    | some v =>
      obtain ⟨en, hen, hv⟩ := hacc.2 j v (by rw [← Array.getElem?_toList]; exact hj)
      have qe := entry_at he j
      rw [hen] at qe
      cases hb : ks[j]? with
      | none =>
        rw [hb] at qe
        exact nomatch (show some en = none from qe)
      | some b =>
        rw [hb] at qe
        have e2 : en = entryOfKey (tupleKind (mixKind X.prog X.w)) b := Option.some.inj qe
        rw [hv, e2]
        all_goals rfl
  have I1 : Inv X pins σ H { s with heap := h', toks := tk } := I.kept kp
  -- each key stands as a tuple
  have hk : ∀ v ∈ acc.toList, ∃ b ns, v = Value.ref b ∧ ns ∈ nss ∧ H b = some (.tup (ns.map V.int)) := by
    intro v hv
    rw [ea] at hv
    obtain ⟨x, hx1, rfl⟩ := List.mem_map.mp hv
    have : ∀ {l : List (List Key × V)} {m : List (List Key × Addr × Value)} {ns : List (List Int)}, KT H l m → l.map (·.1) = ns.map (fun n => n.map Sum.inl) → ∀ x ∈ m, ∃ n ∈ ns, H x.2.1 = some (.tup (n.map V.int)) := by
      intro l m ns hkt
      induction hkt generalizing ns with
      | nil => intro _ x hx; exact nomatch hx
      | @cons p q ps qs hpq t ih =>
        intro e x hx
        cases ns with
        | nil => simp at e
        | cons n ns =>
          rw [List.map_cons, List.map_cons] at e
          injection e with e1 e2
          rcases List.mem_cons.mp hx with rfl | hx
          · refine ⟨n, List.mem_cons_self, ?_⟩
            rw [hpq.2.1, e1, List.map_map]
            congr 1
          · obtain ⟨n', h1, h2⟩ := ih e2 x hx
            exact ⟨n', List.mem_cons_of_mem _ h1, h2⟩
    obtain ⟨n, h1, h2⟩ := this pr hks x hx1
    exact ⟨_, n, rfl, h1, h2⟩
  have hal : acc.toList.length = nss.length := by rw [ea, List.length_map]; omega
  refine wpAny_bind (wpAny_newList ?_ (by rw [hal, sizeLine_eq]; omega))
  have hoL : (h'.push (seqObj "list" acc.toList.toArray 0)).get? h'.objs.size = some (seqObj "list" acc.toList.toArray 0) := Heap.get?_push_size _ rfl
  show wpAny _ _ _ _ _ { s with heap := h'.push (seqObj "list" acc.toList.toArray 0), toks := tk }
  have tI : ∀ (h2 : Heap) (_ : ∀ b u, h'.get? b = some u → h2.get? b = some u) {b : Addr} {ns : List Int}, H b = some (.tup (ns.map V.int)) → TS.TupInts h2 (.ref b) ns := fun h2 k2 {b ns} e => by
    have I2 : Inv X pins σ H { s with heap := h2, toks := tk } := I1.kept k2
    exact tupI_raw I2 (.inl (.inl e))
  have kpush : ∀ b u, h'.get? b = some u → (h'.push (seqObj "list" acc.toList.toArray 0)).get? b = some u := fun b u e => Heap.get?_push_of_some _ e
  have tok : TS.TupsOk (h'.push (seqObj "list" acc.toList.toArray 0)) d B acc.toList := fun v hv => by
    obtain ⟨b, ns, rfl, hm, e⟩ := hk v hv
    exact ⟨ns, tI _ kpush e, (hB ns hm).1, (hB ns hm).2⟩
  refine wpAny_bind (wpAny_holding (wpAny_call_entry PyProof.Rows.slot_list_sort ⟨_, hoL, rfl⟩ PyProof.Rows.entry_list_sort
    (TS.sort_tups (s := { s with heap := h'.push (seqObj "list" acc.toList.toArray 0), toks := tk }) hoL (by rw [hal]; exact h64) hd tok (fun v => TS.code B (TS.intsOf (h'.push (seqObj "list" acc.toList.toArray 0)) v)) (fun v _ ns t => by
      show TS.code B (TS.intsOf _ v) = TS.code B ns
      rw [t.ints]) fun out g1 g2 => ⟨_, rfl, ?_⟩) (PyProof.Rows.args_list_sort _)))
  obtain ⟨e', he'⟩ := PyProof.Rows.sortedHeap_at (vs := acc.toList) (out := out) hoL
  have hout : ∀ v ∈ out.toList, ∃ b ns, v = Value.ref b ∧ ns ∈ nss ∧ H b = some (.tup (ns.map V.int)) := fun v hv => hk v (g1.mem_iff.mp hv)
  -- the numbers of what is sorted
  let io : Value → List Int := fun v => TS.intsOf (h'.push (seqObj "list" acc.toList.toArray 0)) v
  have hio : ∀ {b : Addr} {ns : List Int}, H b = some (.tup (ns.map V.int)) → io (.ref b) = ns := fun {b ns} e => (tI _ kpush e).ints
  have hacc2 : acc.toList.map io = nss := by
    rw [ea, List.map_map]
    have : ∀ {l : List (List Key × V)} {m : List (List Key × Addr × Value)} {ns : List (List Int)}, KT H l m → l.map (·.1) = ns.map (fun n => n.map Sum.inl) → m.map (io ∘ fun x => Value.ref x.2.1) = ns := by
      intro l m ns hkt
      induction hkt generalizing ns with
      | nil => intro e; cases ns with
        | nil => rfl
        | cons n ns => simp at e
      | @cons p q ps qs hpq t ih =>
        intro e
        cases ns with
        | nil => simp at e
        | cons n ns =>
          rw [List.map_cons, List.map_cons] at e
          injection e with e1 e2
          rw [List.map_cons, ih e2]
          congr 1
          refine hio ?_
          rw [hpq.2.1, e1, List.map_map]
          congr 1
    exact this pr hks
  have hpm : (out.toList.map io).Perm nss := by
    rw [← hacc2]
    exact g1.map io
  have hpw : (out.toList.map io).Pairwise (fun m n => TS.code B m ≤ TS.code B n) := by
    rw [List.pairwise_map]
    exact g2
  have hrefs : ∀ u ∈ out.toList, ∃ b, u = Value.ref b := fun u hu => let ⟨b, _, e, _⟩ := hout u hu; ⟨b, e⟩
  have hbs : ∀ {vs : List Value}, (∀ v ∈ vs, ∃ b ns, v = Value.ref b ∧ ns ∈ nss ∧ H b = some (.tup (ns.map V.int))) → ∃ bs : List Addr, vs = bs.map Value.ref ∧ Paired (fun ms b => H b = some (.tup (ms.map V.int))) (vs.map io) bs := by
    intro vs
    induction vs with
    | nil => intro _; exact ⟨[], rfl, .nil⟩
    | cons v vs ih =>
      intro hv
      obtain ⟨bs, e1, e2⟩ := ih fun v hv' => hv v (List.mem_cons_of_mem _ hv')
      obtain ⟨b, ns, rfl, _, e⟩ := hv v List.mem_cons_self
      refine ⟨b :: bs, by rw [e1]; rfl, ?_⟩
      rw [List.map_cons]
      exact .cons (by rw [hio e]; exact e) e2
  obtain ⟨bs, eb, pb⟩ := hbs hout
  have rv : Vals (bs.map V.ref) out.toList := by rw [eb]; exact vals_refs _
  have hlen : (bs.map V.ref).length ≤ sizeLine := by
    have h1 : bs.length = out.toList.length := by rw [eb, List.length_map]
    have h2 := g1.length_eq
    rw [List.length_map, sizeLine_eq]
    omega
  refine wpAny_pure ⟨_, rfl, .ref h'.objs.size, upd H h'.objs.size (.lst (bs.map V.ref)), I1.laid (t' := tk) (fun b u e => ?_) (Nat.le_refl _)
    (show ObjOk X.prog X.w _ _ _ (.lst (bs.map V.ref)) from ⟨hlen, out.toList, e', rv, by rw [Array.toArray_toList]; exact he'⟩), rfl, q _ bs _ hpm hpw pb (I1.hok.fresh (Nat.le_refl _))⟩
  have hb : b < h'.objs.size := Heap.lt_size e
  rw [PyProof.Rows.sortedHeap_old (Nat.ne_of_lt hb) (by rw [size_push']; exact Nat.lt_succ_of_lt hb)]
  exact Heap.get?_push_of_some _ e
end

/-! ### rows of whole numbers compared -/
def ltI : List Int → List Int → Bool
  | [], [] => false
  | [], _ :: _ => true
  | _ :: _, [] => false
  | x :: xs, y :: ys => if x = y then ltI xs ys else decide (x < y)
theorem ltI_eq : ∀ xs ys : List Int, PySem.W.listLt xs ys = ltI xs ys
  | [], [] => rfl
  | [], _ :: _ => rfl
  | _ :: _, [] => rfl
  | x :: xs, y :: ys => by
    unfold PySem.W.listLt ltI
    rw [ltI_eq xs ys]
    rfl
section
variable {X : Cx} {pins : List (Addr × Obj)} {σ : L2.St} {H : Hp} {s : Shared} {a : Addr}
theorem holdsT (I : Inv X pins σ H s) {ns : List Int} (h : SqT X.K H a (ns.map V.int)) : PySem.W.Holds s.heap (.ref a) (PySem.W.Tup.mk ns) := by
  obtain ⟨its, r, ⟨o, h1, h2, n, h3⟩, _⟩ := I.tuple h
  have all : ∀ {ns : List Int} {us : List Value}, Vals (ns.map V.int) us → ∃ as, ReadsAll s.heap us (ns.map PyData.int) as := by
    intro ns
    induction ns with
    | nil => intro us r; cases r; exact ⟨[], .nil⟩
    | cons n ns ih =>
      intro us r
      rw [List.map_cons] at r
      cases r with
      | cons hx t =>
        obtain ⟨as, ra⟩ := ih t
        obtain ⟨tk, rfl⟩ := hx
        exact ⟨[] ++ as, .cons (.int n tk) ra⟩
  obtain ⟨as, ra⟩ := all r
  exact ⟨as, Reads.tuple h1 h2 h3 (by rw [List.toList_toArray]; exact ra)⟩
def rOrdT (K : PySem.W.Frag) (f : List Int → List Int → Bool) : R2 := fun x y H Q => ∃ a b ns ms, x = .ref a ∧ y = .ref b ∧ SqT K H a (ns.map V.int) ∧ SqT K H b (ms.map V.int) ∧ Q (.bl (f ns ms)) H
theorem op_ltT (hu : X.A.units + PySem.W.Datum.depth (PySem.W.Tup Int) < cLine) : OpR X (compareOp .Lt) (rOrdT X.K fun a b => ltI a b) := by
  intro pins s σ H x y v u Q I rx ry q
  obtain ⟨a, b, ns, ms, rfl, rfl, ha, hb, q⟩ := q
  cases rx
  cases ry
  exact PySem.W.lt_datum (holdsT I ha) (holdsT I hb) hu ⟨.bl _, H, I, rfl, by rw [show PySem.W.DatumOrd.lt (PySem.W.Tup.mk ns) (PySem.W.Tup.mk ms) = ltI ns ms from ltI_eq ns ms]; exact q⟩
theorem op_leT (hu : X.A.units + PySem.W.Datum.depth (PySem.W.Tup Int) < cLine) : OpR X (compareOp .LtE) (rOrdT X.K fun a b => !ltI b a) := by
  intro pins s σ H x y v u Q I rx ry q
  obtain ⟨a, b, ns, ms, rfl, rfl, ha, hb, q⟩ := q
  cases rx
  cases ry
  exact PySem.W.le_datum (holdsT I ha) (holdsT I hb) hu ⟨.bl _, H, I, rfl, by rw [show PySem.W.DatumOrd.lt (PySem.W.Tup.mk ms) (PySem.W.Tup.mk ns) = ltI ms ns from ltI_eq ms ns]; exact q⟩
theorem op_gtT (hu : X.A.units + PySem.W.Datum.depth (PySem.W.Tup Int) < cLine) : OpR X (compareOp .Gt) (rOrdT X.K fun a b => ltI b a) := by
  intro pins s σ H x y v u Q I rx ry q
  obtain ⟨a, b, ns, ms, rfl, rfl, ha, hb, q⟩ := q
  cases rx
  cases ry
  exact PySem.W.gt_datum (holdsT I ha) (holdsT I hb) hu ⟨.bl _, H, I, rfl, by rw [show PySem.W.DatumOrd.lt (PySem.W.Tup.mk ms) (PySem.W.Tup.mk ns) = ltI ms ns from ltI_eq ms ns]; exact q⟩
theorem op_geT (hu : X.A.units + PySem.W.Datum.depth (PySem.W.Tup Int) < cLine) : OpR X (compareOp .GtE) (rOrdT X.K fun a b => !ltI a b) := by
  intro pins s σ H x y v u Q I rx ry q
  obtain ⟨a, b, ns, ms, rfl, rfl, ha, hb, q⟩ := q
  cases rx
  cases ry
  exact PySem.W.ge_datum (holdsT I ha) (holdsT I hb) hu ⟨.bl _, H, I, rfl, by rw [show PySem.W.DatumOrd.lt (PySem.W.Tup.mk ns) (PySem.W.Tup.mk ms) = ltI ns ms from ltI_eq ns ms]; exact q⟩
theorem depth_ti : PySem.W.Datum.depth (PySem.W.Tup Int) ≤ 8 := by decide
end
end Sh
set_option Elab.async false
set_option linter.all false
set_option autoImplicit false
set_option maxRecDepth 100000
set_option maxHeartbeats 4000000
/-! Sh, part B: the plain language and what it does. -/
namespace Sh
open PySem

inductive Cm where | eq | ne | lt | le | gt | ge | is_ | isn | in_ | nin
inductive Op where | add | sub | mul | div | mod | pow | band | bor | shl | shr
inductive Ty where | int | bool | str | tuple | list | dict
inductive Bi where | len | abs | max2 | min2 | sum | gcd | divmod | repr | tuple | list | maxL | minL | int | bool | all | any | sorted

mutual
inductive E where
  | con (c : C) | var (i : Nat) | glob (x : Str) (c : C)
  | bin (o : Op) (a b : E) | neg (a : E) | notv (a : E)
  | cmp (o : Cm) (a b : E) | chain (o o' : Cm) (a b c : E)
  | andv (a b : E) | orv (a b : E) | ite (t : T) (a b : E)
  | tup (es : Es) | lst (es : Es) | idx (a i : E) | slc (a : E) (lo hi : Oe)
  | call (f : Nat) (es : Es) | callk (f : Nat) (es ks : Es) (perm : List Nat)
  | bi (b : Bi) (es : Es) | isi (a : E) (t : Ty) | pop (a : E)
  | comp (e : E) (p : Pt) (it : It) (t : T)
  | excf (j : Nat) | excis (x : Str) | revs (a : E)
  | unk | ind (a : E) (neg : Bool) (x : Str) (ks : List Str)
  | dnew | dget (a i : E) | inr (a : E) (neg : Bool) (es : Es)
inductive T where
  | yes | inr (a : E) (neg : Bool) (es : Es) | tr (a : E) | chn (o o' : Cm) (a b c : E) | cmp (o : Cm) (a b : E) | and (a b : T) | or (a b : T) | not (a : T)
inductive Es where
  | nil | cons (e : E) (es : Es)
inductive Oe where
  | none | some (e : E)
inductive It where
  | seq (a : E) | rng1 (a : E) | rng2 (a b : E) | rng3 (a b c : E) | enum (a : E) | zip (a b : E) | rev (a : E) | revr (a : E)
inductive Pt where
  | v (i : Nat) | sub (o i : E) | tup (ps : Pts)
inductive Pts where
  | nil | cons (p : Pt) (ps : Pts)
end

mutual
inductive S where
  | asg (p : Pt) (e : E) | asg3 (i j k : Nat) (e : E) | setc (i : Nat) (e : E) | par (i j : Nat) (a b : E)
  | aug (i : Nat) (o : Op) (e : E) | augi (o i : E) (op : Op) (e : E)
  | ifs (t : T) (a b : Ss) | whl (t : T) (b : Ss) | for_ (p : Pt) (it : It) (b : Ss)
  | ret (e : E) | retn | expr (e : E) | app (o e : E) | ext (o e : E) | raise (k : Nat) (es : Es) | brk | cnt | pass
  | try_ (b : Ss) (hs : Hs)
inductive Ss where
  | nil | cons (s : S) (ss : Ss) | kput (i : Nat) (es : Es) (d e : E) (ss : Ss)
inductive Hs where
  | nil | cons (ks : List Nat) (i : Nat) (b : Ss) (hs : Hs)
end

def gK {α : Type} (n k : Nat) (perm : List Nat) (us ws : List α) : List α := if us.length = n ∧ ws.length = k then us ++ perm.filterMap (fun i => ws[i]?) else []
def Pts.len : Pts → Nat
  | .nil => 0
  | .cons _ ps => ps.len + 1
def Es.len : Es → Nat
  | .nil => 0
  | .cons _ es => es.len + 1
def R.noerr {α : Type} : R α → R α
  | .err _ _ _ => .bad
  | r => r
/-! ### data -/
def toD (h : Hc) : Nat → C → Option PyData
  | 0, _ => none
  | n + 1, c => match c with
    | .non => some .none
    | .bl b => some (.bool b)
    | .int i => some (.int i)
    | .str x => some (.str x)
    | .tup cs => (cs.mapM (toD h n)).map .tuple
    | .ref k => match h[k]? with
      | some cs => (cs.mapM (toD h n)).map .list
      | none => none
    | .frz cs => (cs.mapM (toD h n)).map .list
    | .rep d => some (.str d.shown)
    | .dref _ => none
def datum (h : Hc) (c : C) : Option PyData := toD h 60 c
mutual
def pdEq : PyData → PyData → Bool
  | .none, .none => true
  | .bool a, .bool b => a == b
  | .int i, .int j => i == j
  | .str x, .str y => x == y
  | .list xs, .list ys => pdEqs xs ys
  | .tuple xs, .tuple ys => pdEqs xs ys
  | _, _ => false
def pdEqs : List PyData → List PyData → Bool
  | [], [] => true
  | x :: xs, y :: ys => pdEq x y && pdEqs xs ys
  | _, _ => false
end
/-- == of two values as data, by the data itself -/
def eqFar (h : Hc) (n : Nat) (x y : C) : Option Bool :=
  match toD h n x, toD h n y with
  | some a, some b => if SeqAt.shaped a && SeqAt.shaped b then some (a.eqv b) else none
  | _, _ => none
def both (f : C → C → Option Bool) : List C → List C → Option Bool
  | [], [] => some true
  | x :: xs, y :: ys => match f x y with
    | none => none
    | some b => match both f xs ys with
      | none => none
      | some c => some (b && c)
  | _, _ => none
def ceq (h : Hc) : Nat → C → C → Option Bool
  | 0, _, _ => none
  | n + 1, x, y => match x, y with
    | .rep d, .rep e => if pdEq d e then some true else eqFar h (n + 1) x y
    | .int i, .int j => some (i == j)
    | .tup xs, .tup ys => if xs.length = ys.length then both (ceq h n) xs ys else eqFar h (n + 1) x y
    | .ref a, .ref b => match h[a]?, h[b]? with
      | some xs, some ys => if xs.length = ys.length then both (ceq h n) xs ys else eqFar h (n + 1) x y
      | _, _ => none
    | _, _ => eqFar h (n + 1) x y

/-! ### operators -/
def big : Nat := 2 ^ 60000
@[irreducible] def tooBig (i : Int) : Bool := decide (big ≤ i.natAbs)
def seqOf (h : Hc) : C → Option (List C)
  | .ref n => h[n]?
  | .frz cs => some cs
  | .tup cs => some cs
  | _ => none
def lineN : Nat := 1000000
def addC (x y : C) (h : Hc) : R C :=
  match x, y with
  | .int i, .int j => .ok (.int (i + j)) h
  | .str x, .str y => if lineN < x.length + y.length then .bad else .ok (.str (x ++ y)) h
  | .tup xs, .tup ys => if lineN < xs.length + ys.length then .bad else .ok (.tup (xs ++ ys)) h
  | .ref a, .ref b => match h[a]?, h[b]? with
    | some xs, some ys => if lineN < xs.length + ys.length then .bad else .ok (.ref h.length) (h ++ [xs ++ ys])
    | _, _ => .bad
  | _, _ => .bad
def subC (x y : C) (h : Hc) : R C :=
  match x, y with
  | .int i, .int j => .ok (.int (i - j)) h
  | .bl a, .bl b => .ok (.int ((if a = true then 1 else 0) - (if b = true then 1 else 0))) h
  | _, _ => .bad
def mulC (x y : C) (h : Hc) : R C :=
  match x, y with
  | .int i, .int j => if tooBig i || tooBig j then .bad else .ok (.int (i * j)) h
  | .ref a, .int k => match h[a]? with
    | some xs => if k < 0 ∨ lineN < xs.length * k.toNat ∨ 1000000000 ≤ k then .bad else .ok (.ref h.length) (h ++ [(List.replicate k.toNat xs).flatten])
    | _ => .bad
  | .tup xs, .int k => if xs = [] ∨ k < 2 ∨ 1000 < k ∨ 1000 < xs.length then .bad else .ok (.tup (List.replicate k.toNat xs).flatten) h
  | _, _ => .bad
@[irreducible] def divLine : Nat := 2 ^ 8000
def divC (x y : C) (h : Hc) : R C :=
  match x, y with
  | .int i, .int j => if j = 0 ∨ divLine ≤ j.natAbs then .bad else .ok (.int (i.fdiv j)) h
  | _, _ => .bad
def modC (x y : C) (h : Hc) : R C :=
  match x, y with
  | .int i, .int j => if j = 0 then .bad else .ok (.int (i.fmod j)) h
  | _, _ => .bad
def powC (x y : C) (h : Hc) : R C :=
  match x, y with
  | .int i, .int j => if 0 ≤ j ∧ j ≤ 1000 ∧ i.natAbs < 1606938044258990275541962092341162602522202993782792835301376 then .ok (.int (i ^ j.toNat)) h else .bad
  | _, _ => .bad
def bandC (x y : C) (h : Hc) : R C :=
  match x, y with
  | .int i, .int j => .ok (.int (Builtin.bitAnd i j)) h
  | _, _ => .bad
def borC (x y : C) (h : Hc) : R C :=
  match x, y with
  | .int i, .int j => .ok (.int (Builtin.bitOr i j)) h
  | _, _ => .bad
def shlC (x y : C) (h : Hc) : R C :=
  match x, y with
  | .int i, .int j => if 0 ≤ j ∧ j ≤ 1000 ∧ i.natAbs < 18446744073709551616 then .ok (.int (i * 2 ^ j.toNat)) h else .bad
  | _, _ => .bad
def shrC (x y : C) (h : Hc) : R C :=
  match x, y with
  | .int i, .int j => if 0 ≤ j ∧ j ≤ 1000 then .ok (.int (i / 2 ^ j.toNat)) h else .bad
  | _, _ => .bad
def binop (o : Op) (x y : C) (h : Hc) : R C :=
  match o with
  | .add => addC x y h
  | .sub => subC x y h
  | .mul => mulC x y h
  | .div => divC x y h
  | .mod => modC x y h
  | .pow => powC x y h
  | .band => bandC x y h
  | .bor => borC x y h
  | .shl => shlC x y h
  | .shr => shrC x y h
/-- in place, of ints -/
def augC (o : Op) (i j : Int) (h : Hc) : R C :=
  match o with
  | .add => .ok (.int (i + j)) h
  | .sub => .ok (.int (i - j)) h
  | .mul => if tooBig i || tooBig j then .bad else .ok (.int (i * j)) h
  | .band => .ok (.int (Builtin.bitAnd i j)) h
  | .bor => .ok (.int (Builtin.bitOr i j)) h
  | .shr => if 0 ≤ j ∧ j ≤ 1000 then .ok (.int (i / 2 ^ j.toNat)) h else .bad
  | _ => .bad
def isS : C → C → Option Bool
  | x, .non => match x with | .non => some true | _ => some false
  | .bl a, .bl b => some (decide (a = b))
  | _, _ => none
def flatC : C → Bool
  | .non => true
  | .bl _ => true
  | .int _ => true
  | .str _ => true
  | _ => false
def vOf : C → L2.V
  | .bl b => .bl b
  | .int i => .int i
  | .str z => .str z
  | _ => .non
/-- x in y: a sign in a text; in a list, a tuple: flat ones, or by the data -/
def inS (x : C) (z : Str) : Option Bool :=
  match x with
  | .str a => match a.cps with
    | ⟨[c]⟩ => some (decide (c ∈ z.cps.toList))
    | _ => none
  | _ => none
def inD (x y : Option PyData) : Option Bool :=
  match x, y with
  | some d, some (.list ds) => if SeqAt.shaped d && SeqAt.shaped (.list ds) then some (ds.any fun z => PyData.eqv z d) else none
  | some d, some (.tuple ds) => if SeqAt.shaped d && SeqAt.shaped (.tuple ds) then some (ds.any fun z => PyData.eqv z d) else none
  | _, _ => none
def inC (x y : C) (h : Hc) : Option Bool :=
  match y with
  | .str z => inS x z
  | _ => match seqOf h y with
    | none => none
    | some ys => if flatC x && ys.all flatC then some (ys.any fun c => L2.eqV (vOf c) (vOf x)) else inD (toD h 60 x) (toD h 60 y)
def intsC : List C → Option (List Int)
  | [] => some []
  | .int i :: r => (intsC r).map (i :: ·)
  | _ => none
/-- rows of whole numbers compared -/
def ordT (f : List Int → List Int → Bool) (xs ys : List C) (h : Hc) : R C :=
  match intsC xs with
  | none => .bad
  | some ns => match intsC ys with
    | none => .bad
    | some ms => .ok (.bl (f ns ms)) h
def cmpop (o : Cm) (x y : C) (h : Hc) : R C :=
  match o with
  | .eq => match ceq h 40 x y with
    | some b => .ok (.bl b) h
    | none => .bad
  | .ne => match ceq h 40 x y with
    | some b => .ok (.bl (!b)) h
    | none => .bad
  | .lt => match x, y with
    | .int i, .int j => .ok (.bl (decide (i < j))) h
    | .tup xs, .tup ys => ordT (fun a b => ltI a b) xs ys h
    | _, _ => .bad
  | .le => match x, y with
    | .int i, .int j => .ok (.bl (decide (i ≤ j))) h
    | .tup xs, .tup ys => ordT (fun a b => !ltI b a) xs ys h
    | _, _ => .bad
  | .gt => match x, y with
    | .int i, .int j => .ok (.bl (decide (j < i))) h
    | .tup xs, .tup ys => ordT (fun a b => ltI b a) xs ys h
    | _, _ => .bad
  | .ge => match x, y with
    | .int i, .int j => .ok (.bl (decide (j ≤ i))) h
    | .tup xs, .tup ys => ordT (fun a b => !ltI a b) xs ys h
    | _, _ => .bad
  | .is_ => match isS x y with
    | some b => .ok (.bl b) h
    | none => .bad
  | .isn => match isS x y with
    | some b => .ok (.bl (!b)) h
    | none => .bad
  | .in_ => match inC x y h with
    | some b => .ok (.bl b) h
    | none => .bad
  | .nin => match inC x y h with
    | some b => .ok (.bl (!b)) h
    | none => .bad
def truth (x : C) (h : Hc) : R Bool :=
  match x with
  | .non => .ok false h
  | .bl b => .ok b h
  | .int i => .ok (i != 0) h
  | .str x => if x.length ≤ lineN then .ok ((x.length : Int) != 0) h else .bad
  | c => match seqOf h c with
    | some xs => .ok (!xs.isEmpty) h
    | none => .bad
def ixC (n : Nat) (i : Int) : Option Nat := if 0 ≤ i then (if i < n then some i.toNat else none) else if -(n : Int) ≤ i then some (i + n).toNat else none
def itemS (x : C) (i : Int) (h : Hc) : R C :=
  match x with
  | .str z => if z.length ≤ lineN then (match (ixC z.cps.toList.length i).bind fun j => z.cps.toList[j]? with
      | some c => .ok (.str ⟨#[c]⟩) h
      | none => .bad) else .bad
  | _ => .bad
def item (x y : C) (h : Hc) : R C :=
  match y with
  | .int i => match seqOf h x with
    | some xs => match (ixC xs.length i).bind fun j => xs[j]? with
      | some c => .ok c h
      | none => .bad
    | none => itemS x i h
  | _ => .bad
def setitem (x y z : C) (h : Hc) : R Unit :=
  match x, y with
  | .ref n, .int i => match h[n]? with
    | some xs => match ixC xs.length i with
      | some j => .ok () (h.set n (xs.set j z))
      | none => .bad
    | none => .bad
  | _, _ => .bad
def sIxC (n d : Nat) : Option Int → Nat
  | none => d
  | some v => if v < 0 then (v + (n : Int)).toNat else min v.toNat n
def cutC (xs : List C) (lo hi : Option Int) : List C := (xs.drop (sIxC xs.length 0 lo)).take (sIxC xs.length xs.length hi - sIxC xs.length 0 lo)
def slice (x : C) (lo hi : Option Int) (h : Hc) : R C :=
  match x with
  | .ref n => match h[n]? with
    | some xs => .ok (.ref h.length) (h ++ [cutC xs lo hi])
    | none => .bad
  | .frz xs => .ok (.ref h.length) (h ++ [cutC xs lo hi])
  | .tup xs => .ok (.tup (cutC xs lo hi)) h
  | _ => .bad
def tyC : C → Option Ty
  | .bl _ => some .bool
  | .int _ => some .int
  | .str _ => some .str
  | .tup _ => some .tuple
  | .ref _ => some .list
  | .frz _ => some .list
  | .rep _ => some .str
  | .dref _ => some .dict
  | .non => none
def isiT (o : Option Ty) (t : Ty) : Bool :=
  match o, t with
  | some .bool, .bool => true
  | some .bool, .int => true
  | some .int, .int => true
  | some .str, .str => true
  | some .tuple, .tuple => true
  | some .list, .list => true
  | some .dict, .dict => true
  | _, _ => false
def isiC (c : C) (t : Ty) : Bool := isiT (tyC c) t
def Ty.name : Ty → String
  | .int => "int" | .bool => "bool" | .str => "str" | .tuple => "tuple" | .list => "list" | .dict => "dict"
def tyName : Option Ty → String
  | none => "NoneType" | some t => t.name
def boolsC : List C → Option (List Bool)
  | [] => some []
  | .bl i :: r => (boolsC r).map (i :: ·)
  | _ => none
/-- the greatest, the least of a row of whole numbers -/
def maxI : Int → List Int → Int
  | x, [] => x
  | x, y :: r => maxI (if x < y then y else x) r
def minI : Int → List Int → Int
  | x, [] => x
  | x, y :: r => minI (if y < x then y else x) r
/-! ### dicts with rows of whole numbers as keys -/
def entIs (ns : List Int) : C → Bool
  | .tup (_ :: ks) => decide (intsC ks = some ns)
  | _ => false
def entV : C → Option C
  | .tup (c :: _) => some c
  | _ => none
def entK : C → Option (List Int)
  | .tup (_ :: ks) => intsC ks
  | _ => none
def dgetC (ns : List Int) (es : List C) : Option C := (es.find? (entIs ns)).bind entV
def dputC (ns : List Int) (c : C) (es : List C) : List C :=
  if es.any (entIs ns) then es.map (fun e => if entIs ns e then .tup (c :: ns.map .int) else e) else es ++ [.tup (c :: ns.map .int)]
def keyN : C → Option (List Int)
  | .tup ks => intsC ks
  | _ => none
def dget (x y : C) (h : Hc) : R C :=
  match x with
  | .dref n => match h[n]? with
    | some (.bl true :: es) => match keyN y with
      | some ns => match dgetC ns es with
        | some c => .ok c h
        | none => .bad
      | none => .bad
    | _ => .bad
  | _ => .bad
def dput (x : C) (ks : List C) (z : C) (h : Hc) : R Unit :=
  match x with
  | .dref n => match h[n]? with
    | some (.bl true :: es) => match intsC ks with
      | some ns => if es.length < lineN then .ok () (h.set n (.bl true :: dputC ns z es)) else .bad
      | none => .bad
    | _ => .bad
  | _ => .bad
def insK (x : List Int) : List (List Int) → List (List Int)
  | [] => [x]
  | y :: r => if ltI y x then y :: insK x r else x :: y :: r
def sortK : List (List Int) → List (List Int)
  | [] => []
  | x :: r => insK x (sortK r)
def kB : Int := 1000000000
def keysOK : List (List Int) → Bool
  | [] => true
  | x :: r => (x :: r).all fun ns => decide (ns.length = x.length) && decide (1 ≤ ns.length) && ns.all fun i => decide (0 ≤ i) && decide (i < kB)
def dsort (x : C) (h : Hc) : R C :=
  match x with
  | .dref n => match h[n]? with
    | some (.bl true :: es) => match es.mapM entK with
      | some kss => if kss.length < 64 ∧ keysOK kss = true then .ok (.ref h.length) (h ++ [(sortK kss).map fun ns => .tup (ns.map .int)]) else .bad
      | none => .bad
    | _ => .bad
  | _ => .bad
def inRng (neg : Bool) (x : C) (ys : List C) (h : Hc) : R C :=
  match x, ys with
  | .int i, [.int lo, .int hi] => .ok (.bl (if neg then !(decide (lo ≤ i ∧ i < hi)) else decide (lo ≤ i ∧ i < hi))) h
  | _, _ => .bad
def inRngB (neg : Bool) (x : C) (ys : List C) (h : Hc) : R Bool :=
  match x, ys with
  | .int i, [.int lo, .int hi] => .ok (if neg then !(decide (lo ≤ i ∧ i < hi)) else decide (lo ≤ i ∧ i < hi)) h
  | _, _ => .bad
def shortD (d : PyData) : Bool := decide (d.weight ≤ 8000)
def bi (b : Bi) (xs : List C) (h : Hc) : R C :=
  match b with
  | .len => match xs with
    | [.str z] => if z.length ≤ lineN then .ok (.int z.length) h else .bad
    | [c] => match seqOf h c with
      | some ys => .ok (.int ys.length) h
      | none => .bad
    | _ => .bad
  | .abs => match xs with
    | [.int i] => .ok (.int (if i < 0 then -i else i)) h
    | _ => .bad
  | .max2 => match xs with
    | [.int i, .int j] => .ok (.int (if j > i then j else i)) h
    | _ => .bad
  | .min2 => match xs with
    | [.int i, .int j] => .ok (.int (if j < i then j else i)) h
    | _ => .bad
  | .sum => match xs with
    | [.ref n] => match (h[n]?).bind intsC with
      | some ns => .ok (.int ns.sum) h
      | none => .bad
    | _ => .bad
  | .gcd => match xs with
    | [.int i, .int j] => .ok (.int (Nat.gcd i.natAbs j.natAbs : Nat)) h
    | _ => .bad
  | .divmod => match xs with
    | [.int i, .int j] => if 0 < j ∧ j < 1000000000 then .ok (.tup [.int (i / j), .int (i % j)]) h else .bad
    | _ => .bad
  | .repr => match xs with
    | [c] => match datum h c with
      | some d => if d.showable && SeqAt.shaped d && shortD d then .ok (.rep d) h else .bad
      | none => .bad
    | _ => .bad
  | .tuple => match xs with
    | [.tup cs] => .ok (.tup cs) h
    | [.ref n] => match h[n]? with
      | some cs => .ok (.tup cs) h
      | none => .bad
    | _ => .bad
  | .list => match xs with
    | [c] => match seqOf h c with
      | some cs => .ok (.ref h.length) (h ++ [cs])
      | none => .bad
    | _ => .bad
  | .int => match xs with
    | [.int i] => .ok (.int i) h
    | _ => .bad
  | .maxL => match xs with
    | [.ref n] => match (h[n]?).bind intsC with
      | some (x :: r) => .ok (.int (maxI x r)) h
      | _ => .bad
    | _ => .bad
  | .minL => match xs with
    | [.ref n] => match (h[n]?).bind intsC with
      | some (x :: r) => .ok (.int (minI x r)) h
      | _ => .bad
    | _ => .bad
  | .all => match xs with
    | [.ref n] => match (h[n]?).bind boolsC with
      | some bs => .ok (.bl (bs.all id)) h
      | none => .bad
    | _ => .bad
  | .any => match xs with
    | [.ref n] => match (h[n]?).bind boolsC with
      | some bs => .ok (.bl (bs.any id)) h
      | none => .bad
    | _ => .bad
  | .sorted => match xs with
    | [c] => dsort c h
    | _ => .bad
  | _ => .bad

/-! ### what is walked -/
inductive ItV where
  | lst (n : Nat) | tre (cs : List C) | rng (lo : Int) (n : Nat) | revl (n k : Nat) | revt (cs : List C) | enl (n : Nat) | ent (cs : List C) | txt (z : Str)
/-- the i-th item: none: out of what is told; some none: the end -/
def ItV.at_ (it : ItV) (i : Nat) (h : Hc) : Option (Option C) :=
  match it with
  | .lst n => match h[n]? with
    | some cs => some cs[i]?
    | none => none
  | .tre cs => some cs[i]?
  | .rng lo n => if i < n then some (some (.int (lo + i))) else some none
  | .revl n k => if i < k then (match h[n]? with
    | some cs => (match cs[k - 1 - i]? with
      | some c => some (some c)
      | none => none)
    | none => none) else some none
  | .enl n => match h[n]? with
    | some cs => some (match cs[i]? with
      | some c => some (.tup [.int i, c])
      | none => none)
    | none => none
  | .ent cs => some (match cs[i]? with
    | some c => some (.tup [.int i, c])
    | none => none)
  | .revt cs => if i < cs.length then (match cs[cs.length - 1 - i]? with
    | some c => some (some c)
    | none => none) else some none
  | .txt z => some ((z.cps[i]?).map fun c => .str ⟨#[c]⟩)

/-- a comprehension's turns -/
def compF (it : ItV) (g : C → Sl → Hc → R Sl) (t : Sl → Hc → R Bool) (e : Sl → Hc → R C) : Nat → Nat → Sl → List C → Hc → R (List C)
  | 0, _, _, _, _ => .bad
  | n + 1, i, sl, acc, h => match it.at_ i h with
    | none => .bad
    | some none => .ok acc h
    | some (some c) => (g c sl h).bind fun sl1 h1 => (t sl1 h1).bind fun k h2 => if k then (e sl1 h2).bind fun x h3 => if acc.length < lineN then compF it g t e n (i + 1) sl (acc ++ [x]) h3 else .bad
      else compF it g t e n (i + 1) sl acc h2
mutual
def Pt.slots : Pt → List Nat
  | .v i => [i]
  | .sub _ _ => []
  | .tup ps => Pts.slots ps
def Pts.slots : Pts → List Nat
  | .nil => []
  | .cons p ps => Pt.slots p ++ Pts.slots ps
end
def wipeC (sl : Sl) : List Nat → Sl
  | [] => sl
  | v :: vs => (wipeC sl vs).set v none
def Pt.wipe (p : Pt) (sl : Sl) : Sl := wipeC sl p.slots

section
variable (call : Nat → List C → Hc → R C) (sub : Nat → Str → Option Bool) (w : Nat) (cx : Option (Nat × List C))

mutual
def E.ev : E → Sl → Hc → R C
  | .con c, _, h => .ok c h
  | .var i, sl, h => match sl[i]? with
    | some (some c) => .ok c h
    | _ => .bad
  | .glob _ c, _, h => .ok c h
  | .bin o a b, sl, h => (E.ev a sl h).bind fun x h1 => (E.ev b sl h1).bind fun y h2 => binop o x y h2
  | .neg a, sl, h => (E.ev a sl h).bind fun x h1 => match x with
    | .int i => .ok (.int (-i)) h1
    | _ => .bad
  | .notv a, sl, h => (E.ev a sl h).bind fun x h1 => match x with
    | .bl b => .ok (.bl (!b)) h1
    | _ => .bad
  | .cmp o a b, sl, h => (E.ev a sl h).bind fun x h1 => (E.ev b sl h1).bind fun y h2 => cmpop o x y h2
  | .chain o o' a b c, sl, h => (E.ev a sl h).bind fun x h1 => (E.ev b sl h1).bind fun y h2 => (cmpop o x y h2).bind fun z h3 => match z with
    | .bl true => (E.ev c sl h3).bind fun u h4 => cmpop o' y u h4
    | .bl false => .ok (.bl false) h3
    | _ => .bad
  | .andv a b, sl, h => (E.ev a sl h).bind fun x h1 => match x with
    | .bl true => E.ev b sl h1
    | .bl false => .ok (.bl false) h1
    | _ => .bad
  | .orv a b, sl, h => (E.ev a sl h).bind fun x h1 => match x with
    | .bl false => E.ev b sl h1
    | .bl true => .ok (.bl true) h1
    | _ => .bad
  | .ite t a b, sl, h => (T.ev t sl h).bind fun k h1 => if k then E.ev a sl h1 else E.ev b sl h1
  | .tup es, sl, h => (Es.ev es sl h).bind fun xs h1 => if xs.length ≤ lineN then .ok (.tup xs) h1 else .bad
  | .lst es, sl, h => (Es.ev es sl h).bind fun xs h1 => if xs.length ≤ lineN then .ok (.ref h1.length) (h1 ++ [xs]) else .bad
  | .idx a i, sl, h => (E.ev a sl h).bind fun x h1 => (E.ev i sl h1).bind fun y h2 => item x y h2
  | .slc a lo hi, sl, h => (E.ev a sl h).bind fun x h1 => (Oe.ev lo sl h1).bind fun l h2 => (Oe.ev hi sl h2).bind fun u h3 => slice x l u h3
  | .call f es, sl, h => (Es.ev es sl h).bind fun xs h1 => call f xs h1
  | .callk f es ks perm, sl, h => (Es.ev es sl h).bind fun xs h1 => (Es.ev ks sl h1).bind fun ys h2 => call f (gK es.len ks.len perm xs ys) h2
  | .bi b es, sl, h => (Es.ev es sl h).bind fun xs h1 => bi b xs h1
  | .isi a t, sl, h => (E.ev a sl h).bind fun x h1 => .ok (.bl (isiC x t)) h1
  | .pop a, sl, h => (E.ev a sl h).bind fun x h1 => match x with
    | .ref n => match h1[n]? with
      | some xs => match xs[xs.length - 1]? with
        | some c => .ok c (h1.set n xs.dropLast)
        | none => .bad
      | none => .bad
    | _ => .bad
  | .comp e p it t, sl, h => (It.ev it sl h).bind fun v h1 => (compF v (fun c sl h => Pt.put p c sl h) (fun sl h => T.ev t sl h) (fun sl h => E.ev e sl h) w 0 (p.wipe sl) [] h1).noerr.bind fun xs h2 => .ok (.ref h2.length) (h2 ++ [xs])
  | .revs a, sl, h => (E.ev a sl h).bind fun x h1 => match x with
    | .ref n => match h1[n]? with
      | some cs => .ok (.ref h1.length) (h1 ++ [cs.reverse])
      | none => .bad
    | .frz cs => .ok (.ref h1.length) (h1 ++ [cs.reverse])
    | _ => .bad
  | .excf j, _, h => match cx with
    | some (_, xs) => match xs[j]? with
      | some c => .ok c h
      | none => .bad
    | none => .bad
  | .excis x, _, h => match cx with
    | some (k, _) => match sub k x with
      | some b => .ok (.bl b) h
      | none => .bad
    | none => .bad
  | .unk, _, _ => .bad
  | .dnew, _, h => .ok (.dref h.length) (h ++ [[.bl true]])
  | .dget a i, sl, h => (E.ev a sl h).bind fun x h1 => (E.ev i sl h1).bind fun y h2 => dget x y h2
  | .inr a neg es, sl, h => (E.ev a sl h).bind fun x h1 => (Es.ev es sl h1).bind fun ys h2 => inRng neg x ys h2
  | .ind a neg _ ks, sl, h => (E.ev a sl h).bind fun x h1 => match x with
    | .str z => .ok (.bl (if neg then !(ks.contains z) else ks.contains z)) h1
    | _ => .bad
def T.ev : T → Sl → Hc → R Bool
  | .yes, _, h => .ok true h
  | .inr a neg es, sl, h => (E.ev a sl h).bind fun x h1 => (Es.ev es sl h1).bind fun ys h2 => inRngB neg x ys h2
  | .tr a, sl, h => (E.ev a sl h).bind fun x h1 => truth x h1
  | .cmp o a b, sl, h => (E.ev a sl h).bind fun x h1 => (E.ev b sl h1).bind fun y h2 => (cmpop o x y h2).bind fun z h3 => match z with
    | .bl k => .ok k h3
    | _ => .bad
  | .chn o o' a b c, sl, h => (E.ev a sl h).bind fun x h1 => (E.ev b sl h1).bind fun y h2 => (cmpop o x y h2).bind fun z h3 => match z with
    | .bl true => (E.ev c sl h3).bind fun u h4 => (cmpop o' y u h4).bind fun z h5 => match z with
      | .bl k => .ok k h5
      | _ => .bad
    | .bl false => .ok false h3
    | _ => .bad
  | .and a b, sl, h => (T.ev a sl h).bind fun k h1 => if k then T.ev b sl h1 else .ok false h1
  | .or a b, sl, h => (T.ev a sl h).bind fun k h1 => if k then .ok true h1 else T.ev b sl h1
  | .not a, sl, h => (T.ev a sl h).bind fun k h1 => .ok (!k) h1
def Es.ev : Es → Sl → Hc → R (List C)
  | .nil, _, h => .ok [] h
  | .cons e es, sl, h => (E.ev e sl h).bind fun x h1 => (Es.ev es sl h1).bind fun xs h2 => .ok (x :: xs) h2
def Oe.ev : Oe → Sl → Hc → R (Option Int)
  | .none, _, h => .ok none h
  | .some e, sl, h => (E.ev e sl h).bind fun x h1 => match x with
    | .int i => .ok (some i) h1
    | _ => .bad
def It.ev : It → Sl → Hc → R ItV
  | .seq a, sl, h => (E.ev a sl h).bind fun x h1 => match x with
    | .ref n => .ok (.lst n) h1
    | .tup cs => .ok (.tre cs) h1
    | .str z => .ok (.txt z) h1
    | _ => .bad
  | .rng1 a, sl, h => (E.ev a sl h).bind fun x h1 => match x with
    | .int j => if -1000000000 < j ∧ j < 1000000000 then .ok (.rng 0 j.toNat) h1 else .bad
    | _ => .bad
  | .rng2 a b, sl, h => (E.ev a sl h).bind fun x h1 => (E.ev b sl h1).bind fun y h2 => match x, y with
    | .int i, .int j => if -1000000 < i ∧ i < 1000000 ∧ -1000000 < j ∧ j < 1000000 then .ok (.rng i (j - i).toNat) h2 else .bad
    | _, _ => .bad
  | .enum a, sl, h => (E.ev a sl h).bind fun x h1 => match x with
    | .ref n => .ok (.enl n) h1
    | .tup cs => .ok (.ent cs) h1
    | _ => .bad
  | .rev a, sl, h => (E.ev a sl h).bind fun x h1 => match x with
    | .ref n => (match h1[n]? with
      | some cs => .ok (.revl n cs.length) h1
      | none => .bad)
    | .tup cs => .ok (.revt cs) h1
    | _ => .bad
  | _, _, _ => .bad
def Pt.put : Pt → C → Sl → Hc → R Sl
  | .v i, c, sl, h => .ok (sl.set i (some c)) h
  | .sub o i, c, sl, h => (E.ev o sl h).noerr.bind fun x h1 => (E.ev i sl h1).noerr.bind fun y h2 => (setitem x y c h2).bind fun _ h3 => .ok sl h3
  | .tup ps, c, sl, h => match c with
    | .tup cs => if cs.length = ps.len then Pts.put ps cs sl h else .bad
    | _ => .bad
def Pts.put : Pts → List C → Sl → Hc → R Sl
  | .nil, cs, sl, h => match cs with
    | [] => .ok sl h
    | _ :: _ => .bad
  | .cons p ps, cs, sl, h => match cs with
    | [] => .bad
    | c :: cs => (Pt.put p c sl h).bind fun sl1 h1 => Pts.put ps cs sl1 h1
end
end

/-- the end of a statement -/
inductive RS' where
  | nx (sl : Sl) (h : Hc) | ret (c : C) (h : Hc) | bk (sl : Sl) (h : Hc) | ct (sl : Sl) (h : Hc) | err (k : Nat) (xs : List C) (sl : Sl) (h : Hc) | bad
/-- an expression, then on -/
def R.th {α : Type} (r : R α) (sl : Sl) (f : α → Hc → RS') : RS' :=
  match r with
  | .ok a h => f a h
  | .err k xs h => .err k xs sl h
  | .bad => .bad
def RS'.th (r : RS') (f : Sl → Hc → RS') : RS' :=
  match r with
  | .nx sl h => f sl h
  | r => r
def whileF (t : Sl → Hc → R Bool) (b : Sl → Hc → RS') : Nat → Sl → Hc → RS'
  | 0, _, _ => .bad
  | n + 1, sl, h => (t sl h).th sl fun k h1 => if k then
      (match b sl h1 with
        | .nx sl2 h2 => whileF t b n sl2 h2
        | .ct sl2 h2 => whileF t b n sl2 h2
        | .bk sl2 h2 => .nx sl2 h2
        | r => r)
    else .nx sl h1
def forF (it : ItV) (g : C → Sl → Hc → R Sl) (b : Sl → Hc → RS') : Nat → Nat → Sl → Hc → RS'
  | 0, _, _, _ => .bad
  | n + 1, i, sl, h => match it.at_ i h with
    | none => .bad
    | some none => .nx sl h
    | some (some c) => (g c sl h).noerr.th sl fun sl1 h1 => match b sl1 h1 with
      | .nx sl2 h2 => forF it g b n (i + 1) sl2 h2
      | .ct sl2 h2 => forF it g b n (i + 1) sl2 h2
      | .bk sl2 h2 => .nx sl2 h2
      | r => r

section
variable (call : Nat → List C → Hc → R C) (sub : Nat → Str → Option Bool) (w : Nat)
mutual
def S.ev : S → Option (Nat × List C) → Sl → Hc → RS'
  | .asg p e, cx, sl, h => (E.ev call sub w cx e sl h).th sl fun c h1 => (Pt.put call sub w cx p c sl h1).noerr.th sl fun sl1 h2 => .nx sl1 h2
  | .asg3 i j k e, cx, sl, h => (E.ev call sub w cx e sl h).th sl fun c h1 => .nx (((sl.set i (some c)).set j (some c)).set k (some c)) h1
  | .par i j a b, cx, sl, h => (E.ev call sub w cx a sl h).th sl fun x h1 => (E.ev call sub w cx b sl h1).th sl fun y h2 => .nx ((sl.set i (some x)).set j (some y)) h2
  | .aug i o e, cx, sl, h => match sl[i]? with
    | some (some x) => (E.ev call sub w cx e sl h).th sl fun y h1 => (match x, y with
      | .int a, .int b => (augC o a b h1).th sl fun z h2 => .nx (sl.set i (some z)) h2
      | _, _ => .bad)
    | _ => .bad
  | .augi o i op e, cx, sl, h => (E.ev call sub w cx o sl h).th sl fun x h1 => (E.ev call sub w cx i sl h1).th sl fun y h2 => (match x with
    | .ref _ => (item x y h2).th sl fun old h3 => (E.ev call sub w cx e sl h3).th sl fun v h4 => (match old, v with
      | .int a, .int b => (augC op a b h4).th sl fun new h5 => (setitem x y new h5).th sl fun _ h6 => .nx sl h6
      | _, _ => .bad)
    | _ => .bad)
  | .ifs t a b, cx, sl, h => (T.ev call sub w cx t sl h).th sl fun k h1 => if k then Ss.ev a cx sl h1 else Ss.ev b cx sl h1
  | .whl t b, cx, sl, h => whileF (T.ev call sub w cx t) (Ss.ev b cx) w sl h
  | .for_ p it b, cx, sl, h => (It.ev call sub w cx it sl h).th sl fun v h1 => forF v (Pt.put call sub w cx p) (Ss.ev b cx) w 0 sl h1
  | .ret e, cx, sl, h => (E.ev call sub w cx e sl h).th sl fun c h1 => .ret c h1
  | .retn, _, _, h => .ret .non h
  | .expr e, cx, sl, h => (E.ev call sub w cx e sl h).th sl fun _ h1 => .nx sl h1
  | .app o e, cx, sl, h => (E.ev call sub w cx o sl h).th sl fun x h1 => (match x with
    | .ref n => (E.ev call sub w cx e sl h1).th sl fun y h2 => (match h2[n]? with
      | some xs => if xs.length < lineN then .nx sl (h2.set n (xs ++ [y])) else .bad
      | none => .bad)
    | _ => .bad)
  | .ext o e, cx, sl, h => (E.ev call sub w cx o sl h).th sl fun x h1 => (match x with
    | .ref n => (E.ev call sub w cx e sl h1).th sl fun y h2 => (match y with
      | .ref m => (match h2[n]?, h2[m]? with
        | some xs, some ys => if xs.length + ys.length ≤ lineN then .nx sl (h2.set n (xs ++ ys)) else .bad
        | _, _ => .bad)
      | _ => .bad)
    | _ => .bad)
  | .setc i e, cx, sl, h => (E.ev call sub w cx e sl h).th sl fun c h1 => .nx (sl.set i (some c)) h1
  | .raise k es, cx, sl, h => (Es.ev call sub w cx es sl h).th sl fun xs h1 => .err k xs sl h1
  | .brk, _, sl, h => .bk sl h
  | .cnt, _, sl, h => .ct sl h
  | .pass, _, sl, h => .nx sl h
  | .try_ b hs, cx, sl, h => match cx with
    | some _ => .bad
    | none => match Ss.ev b none sl h with
      | .err k xs sl1 h1 => Hs.ev hs k xs sl1 h1
      | r => r
def Ss.ev : Ss → Option (Nat × List C) → Sl → Hc → RS'
  | .nil, _, sl, h => .nx sl h
  | .cons s ss, cx, sl, h => (S.ev s cx sl h).th fun sl1 h1 => Ss.ev ss cx sl1 h1
  | .kput i es d e ss, cx, sl, h => (Es.ev call sub w cx es sl h).th sl fun ks h1 => if ks.length ≤ lineN ∧ i < sl.length then
      (E.ev call sub w cx e (sl.set i (some (.tup ks))) h1).th (sl.set i (some (.tup ks))) fun c h2 => (E.ev call sub w cx d (sl.set i (some (.tup ks))) h2).th (sl.set i (some (.tup ks))) fun x h3 => (dput x ks c h3).th (sl.set i (some (.tup ks))) fun _ h4 => Ss.ev ss cx (sl.set i (some (.tup ks))) h4
    else .bad
/-- the clauses: the exception's number is among ks; behind the suite the name is gone -/
def Hs.ev : Hs → Nat → List C → Sl → Hc → RS'
  | .nil, k, xs, sl, h => .err k xs sl h
  | .cons ks i b hs, k, xs, sl, h => if ks.contains k then
      (match Ss.ev b (some (k, xs)) (sl.set i none) h with
        | .nx sl2 h2 => .nx (sl2.set i none) h2
        | .ret c h2 => .ret c h2
        | .bk sl2 h2 => .bk (sl2.set i none) h2
        | .ct sl2 h2 => .ct (sl2.set i none) h2
        | _ => .bad)
    else Hs.ev hs k xs sl h
end
end

/-- a def: how many names it has, how many parameters, its body -/
structure Fn where
  n : Nat
  np : Nat
  body : Ss
mutual
def C.under (n : Nat) : C → Bool
  | .tup cs => C.unders n cs
  | .ref k => decide (k < n)
  | .frz cs => C.unders n cs
  | .dref k => decide (k < n)
  | _ => true
def C.unders (n : Nat) : List C → Bool
  | [] => true
  | c :: cs => C.under n c && C.unders n cs
end
/-- what a call leaves: new lists that nothing old or told holds are let go -/
def tidy (n : Nat) (c : C) (h : Hc) : R C :=
  if c.under n && (h.take n).all (C.unders n) then .ok c (h.take n) else .ok c h
def tidyX (n : Nat) (k : Nat) (xs : List C) (h : Hc) : R C :=
  if C.unders n xs && (h.take n).all (C.unders n) then .err k xs (h.take n) else .err k xs h
def run (fns : Nat → Option Fn) (sub : Nat → Str → Option Bool) (w : Nat) : Nat → Nat → List C → Hc → R C
  | 0, _, _, _ => .bad
  | d + 1, f, xs, h => match fns f with
    | none => .bad
    | some fn => if xs.length = fn.np ∧ fn.np ≤ fn.n then
        (match Ss.ev (run fns sub w d) sub w fn.body none (xs.map some ++ List.replicate (fn.n - fn.np) none) h with
          | .nx _ h1 => tidy h.length .non h1
          | .ret c h1 => tidy h.length c h1
          | .err k ys _ h1 => tidyX h.length k ys h1
          | _ => .bad)
      else .bad
end Sh
set_option Elab.async false
set_option linter.all false
set_option autoImplicit false
set_option maxRecDepth 100000
set_option maxHeartbeats 4000000
/-! Sh, part C: a def's promise where no repr is under way; readings over plain values. -/
namespace Sh
open PySem PySem.Spec PyProof.Rows L2

/-- FnOk where nothing guards around -/
structure FnOkG (P : Program) (w : World) (K : PySem.W.Frag) (mg : Str → Option Value) (base : Heap) (k : Nat) (f : Addr) (fd : FuncData) (ps : List Str) (sp : Sp) : Prop where
  len : ∀ vs H Q E, sp vs H Q E → vs.length = ps.length
  run : ∀ (A : Around) (outer : List Env) (s : Shared) (H : Hp) (args : Args) (us : List Value) (vs : List V) (Q : VK) (E : XK), A.guards = some [] → Room k A → Env0 P w K mg base A outer s H → BindsTo s fd args (ps.zip us) → Vals vs us → sp vs H Q E →
    codeAny (model P w) A (.call (.ref f) args) (CR (L2.CX P w) outer P w H s Q E) s

section
variable {P : Program} {w : World} {K : PySem.W.Frag} {mg : Str → Option Value} {base : Heap}
theorem FnOkG.mono {j k : Nat} {f : Addr} {fd : FuncData} {ps : List Str} {sp : Sp} (F : FnOkG P w K mg base j f fd ps sp) (h : j ≤ k) : FnOkG P w K mg base k f fd ps sp :=
  ⟨F.len, fun A outer s H args us vs Q E hg hr => F.run A outer s H args us vs Q E hg (hr.mono h)⟩
theorem FnOkG.imp {k : Nat} {f : Addr} {fd : FuncData} {ps : List Str} {sp sp' : Sp} (F : FnOkG P w K mg base k f fd ps sp) (h : ∀ vs H Q E, sp' vs H Q E → sp vs H Q E) : FnOkG P w K mg base k f fd ps sp' :=
  ⟨fun vs H Q E q => F.len vs H Q E (h _ _ _ _ q), fun A outer s H args us vs Q E hg hr he hb hv hs => F.run A outer s H args us vs Q E hg hr he hb hv (h _ _ _ _ hs)⟩
/-- a def by its body -/
theorem Fun.okG {x qual : Str} {st : Stmt} {f : Addr} {fd : FuncData} {N ps : List Str} {k : Nat} {sp : Sp} (F : Fun K x qual st f fd) (S : FnScope N ps (defScope st)) (len : ∀ vs H Q E, sp vs H Q E → vs.length = ps.length)
    (hbody : ∀ (cdv : Value) (A : Around) (outer : List Env) (s : Shared) (H : Hp) (vs : List V) (Q : VK) (E : XK), A.guards = some [] → Room k (A.deeper (envOfC qual (defScope st) s.heap.objs.size f cdv)) → sp vs H Q E →
      ∃ t, PSs (cxOf (L2.CX P w) P w K mg base N qual (defScope st) f cdv A outer s H E) (defBody st) t ∧ t { nx := fun _ H' => Q .non H', rt := Q } (start N vs) H) : FnOkG P w K mg base (k + 1) f fd ps sp := by
  obtain ⟨oc, od, kV, doc, pm, an, cdv, ct, osl, rfl, lk, hcd⟩ := F.ex
  refine ⟨len, fun A outer s H args us vs Q E hg hr e0 hb r hsp => ?_⟩
  have hl := len _ _ _ _ hsp
  have KX : K.In s.heap := e0.mod.kin.keeps fun b o e => (e0.bs b o e).1
  have lim : s.heap.NoLimit := e0.mod.nolimit.keeps fun b o e => (e0.bs b o e).1
  have hkind : ∀ y ∈ ps.zip us, (defScope st).names.lookup y.1 = some .local ∨ ((defScope st).names.lookup y.1 = some .cell ∧ ((cellsFrom (s.heap.objs.size + 1) (defScope st).names []).lookup y.1).isSome = true) := fun ⟨n, v⟩ hy => by
    rcases S.par n (List.of_mem_zip hy).1 with q | q
    · exact .inl q
    · exact .inr ⟨q, PySem.W.cellsFrom_some _ _ _ (.inl q)⟩
  refine codeAny_call_function hr.depth (KX _ _ lk) rfl S.co S.gen rfl (PySem.W.codeRec_of KX hcd) (hb _ _ _ _ ?_)
  refine wpAny_newFunctionEnv_cells S.kind hkind fun env he s1 x => ?_
  subst he
  refine ⟨lim.keeps x.toInCall.keep, codeAny_func ?_⟩
  obtain ⟨t, ht, hq⟩ := hbody cdv A outer s H vs Q E hg (hr.deeper _) hsp
  have I : Inv (cxOf (L2.CX P w) P w K mg base N qual (defScope st) f cdv A outer s H E) [] (start N vs) H s1 := inv_start S hr.hd e0 hl r x
  refine wpAny_mono (ht.run [] s1 (start N vs) H _ I hq) (fun fl s' hs => ?_) fun e s' hs => hs
  have fin : ∀ {σ' : L2.St} {H' : Hp} {v : V} {u : Value}, Inv (cxOf (L2.CX P w) P w K mg base N qual (defScope st) f cdv A outer s H E) [] σ' H' s' → RelV v u → Q v H' → CE outer P w H s Q u s' :=
    fun {σ' H' v u} J rv q => ⟨v, H', J.os, J.bare, J.base, J.hok, rv, q⟩
  cases fl with
  | ret u =>
    obtain ⟨v, σ', H', J, rv, q⟩ := hs
    exact fin J rv q
  | next =>
    obtain ⟨σ', H', J, q⟩ := hs
    exact fin (v := V.non) (u := Value.none) J rfl q
  | brk =>
    obtain ⟨_, _, _, q⟩ := hs
    exact False.elim q
  | cont =>
    obtain ⟨_, _, _, q⟩ := hs
    exact False.elim q
end

section
variable {X : Cx} {k : Nat} {f : Addr} {fd : FuncData} {ps ks : List Str} {sp : Sp} {E : L2.St → XK} {x : Str} {p pos : Pos} {e : Expr} {es : List Expr} {t tk : TA} {kws : List Keyword} {g : List Value → List Value → List Value} {gV : List V → List V → List V}
theorem run_g {pins : List (Addr × Obj)} {σ : L2.St} {H : Hp} {s : Shared} {Q : VK} {us : List Value} {vs : List V} (F : FnOkG X.prog X.w X.K X.mg X.base k f fd ps sp) (hg : X.A.guards = some []) (hr : Room k X.A) (hb : Binds X.K fd ps []) (hx : PassesAt (L2.CX X.prog X.w) X σ (E σ))
    (I : Inv X pins σ H s) (r : Vals vs us) (h : sp vs H Q (E σ)) : wpAny (model X.prog X.w) X.A (call (.ref f) us) (EP X pins σ Q) X.xe s := by
  have hl : us.length = ps.length := by rw [← r.length]; exact F.len _ _ _ _ h
  have b := hb s us I.kIn (by rw [List.append_nil]; exact hl)
  rw [List.append_nil] at b
  refine wpAny_call (codeAny_mono (F.run X.A X.stack s H ⟨us, []⟩ us vs Q (E σ) hg hr I.env0 b r h) fun r s' hq => ?_)
  cases r with
  | error e => exact hx pins H s e s' I hq
  | ok fl =>
    cases fl with
    | ret u => exact I.after hq
    | next => exact False.elim hq
    | brk => exact False.elim hq
    | cont => exact False.elim hq
theorem run_gk {pins : List (Addr × Obj)} {σ : L2.St} {H : Hp} {s : Shared} {Q : VK} {us ws : List Value} {vs zs : List V} (F : FnOkG X.prog X.w X.K X.mg X.base k f fd ps sp) (hg : X.A.guards = some []) (hr : Room k X.A) (hb : KBinds X.K fd ps ks g gV) (hx : PassesAt (L2.CX X.prog X.w) X σ (E σ))
    (I : Inv X pins σ H s) (r : Vals vs us) (rz : Vals zs ws) (h : sp (gV vs zs) H Q (E σ)) : wpAny (model X.prog X.w) X.A (call (.ref f) us (ks.zip ws)) (EP X pins σ Q) X.xe s := by
  have r2 := hb.rel r rz
  have hl : (g us ws).length = ps.length := by rw [← r2.length]; exact F.len _ _ _ _ h
  refine wpAny_call (codeAny_mono (F.run X.A X.stack s H ⟨us, ks.zip ws⟩ (g us ws) (gV vs zs) Q (E σ) hg hr I.env0 (hb.to s us ws I.kIn hl) r2 h) fun r s' hq => ?_)
  cases r with
  | error e => exact hx pins H s e s' I hq
  | ok fl =>
    cases fl with
    | ret u => exact I.after hq
    | next => exact False.elim hq
    | brk => exact False.elim hq
    | cont => exact False.elim hq
theorem pe_g (F : FnOkG X.prog X.w X.K X.mg X.base k f fd ps sp) (hgu : X.A.guards = some []) (hr : Room k X.A) (hg : Gl X x) (hm : X.mg x = some (.ref f)) (hk : PySem.W.keepIn X.K (.ref f) = true) (hb : Binds X.K fd ps []) (hx : ∀ σ, PassesAt (L2.CX X.prog X.w) X σ (E σ))
    (ha : PA X (e :: es) t) (hdb : (x == ("__debug__" : Str)) = false) (he : starEach (e :: es) X.env = (false, eval e X.env) :: starEach es X.env) (hpl : (backTo pos (starEach es X.env)).any (·.1) = false) :
    PE X (.Call (.Name x p) (e :: es) [] pos) (tCallS sp E t) := by
  refine ⟨fun pins s σ H Q I h => ?_⟩
  refine wpAny_Call_Name_kw (ld_glob I hg hm ?_ hdb)
  refine PySem.W.callWith_K (h₀ := X.base) I.ok.mod.kin hk (thn (ha.run pos pins s σ H _ I h) fun us s1 ⟨vs, H1, I1, r, q⟩ => ⟨I1.kIn, ?_⟩) he hpl
  exact run_g F hgu hr hb (hx σ) I1 r q
theorem pe_g0 (F : FnOkG X.prog X.w X.K X.mg X.base k f fd ps sp) (hgu : X.A.guards = some []) (hr : Room k X.A) (hg : Gl X x) (hm : X.mg x = some (.ref f)) (hk : PySem.W.keepIn X.K (.ref f) = true) (hb : Binds X.K fd ps []) (hx : ∀ σ, PassesAt (L2.CX X.prog X.w) X σ (E σ))
    (hdb : (x == ("__debug__" : Str)) = false) : PE X (.Call (.Name x p) [] [] pos) (tCallS sp E tNil) := by
  refine ⟨fun pins s σ H Q I h => ?_⟩
  refine wpAny_Call_Name_kw (ld_glob I hg hm ?_ hdb)
  exact PySem.W.callWith_K0 I.kIn hk (run_g (us := []) F hgu hr hb (hx σ) I .nil h)
def tCallSK (sp : Sp) (gV : List V → List V → List V) (E : L2.St → XK) (t tk : TA) : TE := fun σ H Q => t σ H fun vs H1 => tk σ H1 fun zs H2 => sp (gV vs zs) H2 Q (E σ)
theorem pe_gk (F : FnOkG X.prog X.w X.K X.mg X.base k f fd ps sp) (hgu : X.A.guards = some []) (hr : Room k X.A) (hg : Gl X x) (hm : X.mg x = some (.ref f)) (hk : PySem.W.keepIn X.K (.ref f) = true) (hb : KBinds X.K fd ps ks g gV) (hx : ∀ σ, PassesAt (L2.CX X.prog X.w) X σ (E σ))
    (ha : PA X (e :: es) t) (hkw : PK X kws tk) (hall : (backToKw pos (keywordEach kws X.env)).all (·.1.isSome) = true) (hks : (backToKw pos (keywordEach kws X.env)).filterMap (·.1) = ks)
    (hdb : (x == ("__debug__" : Str)) = false) (he : starEach (e :: es) X.env = (false, eval e X.env) :: starEach es X.env)
    (hpl : ((backTo pos (starEach (e :: es) X.env)).any (·.1) || (backToKw pos (keywordEach kws X.env)).any (·.1.isNone)) = false) :
    PE X (.Call (.Name x p) (e :: es) kws pos) (tCallSK sp gV E t tk) := by
  refine ⟨fun pins s σ H Q I h => ?_⟩
  refine wpAny_Call_Name_kw (ld_glob I hg hm ?_ hdb)
  refine PySem.W.callWith_KW (h₀ := X.base) I.ok.mod.kin hk hall (thn (ha.run pos pins s σ H _ I h) fun us s1 ⟨vs, H1, I1, r, q⟩ => ?_) hpl he
  refine thn (hkw.run pos pins s1 σ H1 _ I1 q) fun ws s2 ⟨zs, H2, I2, rz, q2⟩ => ⟨I2.kIn, ?_⟩
  rw [hks]
  exact run_gk F hgu hr hb (hx σ) I2 r rz q2
end

/-! ### readings over plain values -/
section
variable (et : ETab) (K : PySem.W.Frag)
def relV : List Addr → Hp → C → V → Prop := fun m H c v => RV K m H c v
def relVs : List Addr → Hp → List C → List V → Prop := fun m H c v => RVs K m H c v
def relB {α : Type} : List Addr → Hp → α → α → Prop := fun _ _ a b => b = a
def tE (W : WX) (f : Sl → Hc → R C) : TE := fun σ H Q => ∃ m sl h, Rl K m h H ∧ RS K m H sl σ ∧ Post et K (fun c d H' => W c d σ H') m H (relV K) Q (f sl h)
def tT (W : WX) (f : Sl → Hc → R Bool) : TT := fun σ H Q => ∃ m sl h, Rl K m h H ∧ RS K m H sl σ ∧ Post et K (fun c d H' => W c d σ H') m H relB Q (f sl h)
def tA (W : WX) (f : Sl → Hc → R (List C)) : TA := fun σ H Q => ∃ m sl h, Rl K m h H ∧ RS K m H sl σ ∧ Post et K (fun c d H' => W c d σ H') m H (relVs K) Q (f sl h)
def tO (W : WX) (f : Sl → Hc → R (Option Int)) : TO := fun σ H Q => ∃ m sl h, Rl K m h H ∧ RS K m H sl σ ∧ Post et K (fun c d H' => W c d σ H') m H relB Q (f sl h)
end
theorem _root_.L2.PE.imp {X : Cx} {e : Expr} {t t' : TE} (h : PE X e t) (hi : ∀ σ H Q, t' σ H Q → t σ H Q) : PE X e t' := ⟨fun pins s σ H Q I q => h.run pins s σ H Q I (hi _ _ _ q)⟩
theorem _root_.L2.PT.imp {X : Cx} {e : Expr} {t t' : TT} (h : PT X e t) (hi : ∀ σ H Q, t' σ H Q → t σ H Q) : PT X e t' := ⟨fun pins s σ H Q I q => h.run pins s σ H Q I (hi _ _ _ q)⟩
theorem _root_.L2.PW.imp {X : Cx} {e : Expr} {t t' : TT} (h : PW X e t) (hi : ∀ σ H Q, t' σ H Q → t σ H Q) : PW X e t' := ⟨fun wh pins s σ H Q I q => h.run wh pins s σ H Q I (hi _ _ _ q)⟩
theorem _root_.L2.PA.imp {X : Cx} {es : List Expr} {t t' : TA} (h : PA X es t) (hi : ∀ σ H Q, t' σ H Q → t σ H Q) : PA X es t' := ⟨fun pos pins s σ H Q I q => h.run pos pins s σ H Q I (hi _ _ _ q)⟩
theorem _root_.L2.PS.imp {X : Cx} {st : Stmt} {t t' : TS} (h : PS X st t) (hi : ∀ D σ H, t' D σ H → t D σ H) : PS X st t' := ⟨fun pins s σ H D I q => h.run pins s σ H D I (hi _ _ _ q)⟩
theorem _root_.L2.PSs.imp {X : Cx} {st : List Stmt} {t t' : TS} (h : PSs X st t) (hi : ∀ D σ H, t' D σ H → t D σ H) : PSs X st t' := ⟨fun pins s σ H D I q => h.run pins s σ H D I (hi _ _ _ q)⟩
end Sh
set_option Elab.async false
set_option linter.all false
set_option autoImplicit false
set_option maxRecDepth 100000
set_option maxHeartbeats 4000000
/-! Sh, part D: operators over plain values do what the machine does. -/
namespace Sh
open PySem PySem.Spec PyProof.Rows L2

theorem bb_sub (a b : Bool) : Gives (Builtin.«int.__sub__» ⟨[.bool a, .bool b], []⟩) (.int ((if a = true then (1 : Int) else 0) - (if b = true then (1 : Int) else 0))) :=
  .of_wp fun M A E s Q h => by obtain ⟨hp, g, d, tk, os⟩ := s; wp_walk; exact ⟨_, rfl, h⟩
theorem sub_bool_bool {prog : Program} {w : World} {A : Around} {E : Value → Shared → Prop} {s : Shared} {Q : Value → Shared → Prop} {a b : Bool}
    (h : Q (.int ((if a = true then (1 : Int) else 0) - (if b = true then (1 : Int) else 0)) s.toks) { s with toks := s.toks + 1 }) : wpAny (model prog w) A (binaryOp .Sub (.bool a) (.bool b)) Q E s :=
  binaryOp_gives (op := .Sub) (T := "bool") rfl rfl F.fills_bool_sub F.slot_bool_sub F.entry_int_sub (F.args_int_sub_2 _ _) (bb_sub a b) trivial h

section
variable {X : Cx} {et : ETab} {W : Value → Option Addr → Hp → Prop} {m : List Addr} {H : Hp} {h : Hc} {x y : C} {v u : V} {Q : VK}
theorem op_subBB : OpR X (binaryOp .Sub) (fun x y H Q => ∃ a b, x = .bl a ∧ y = .bl b ∧ Q (.int ((if a = true then (1 : Int) else 0) - (if b = true then (1 : Int) else 0))) H) := by
  intro pins s σ H x y v u Q I rx ry h
  obtain ⟨i, k, rfl, rfl, q⟩ := h
  cases rx
  cases ry
  exact sub_bool_bool ⟨.int _, H, I.tok _, ⟨_, rfl⟩, q⟩
def CDivX (_ j : Int) : Prop := j ≠ 0 ∧ j.natAbs.log2 < 9000
theorem op_fdivX : OpR X (binaryOp .FloorDiv) (rI CDivX fun i j => .int (i.fdiv j)) := opI fun _ _ _ _ _ _ _ hc q => floordiv_int hc.1 q (.inl (PyProof.noPylong_of_log2 hc.2))

def CPowX (i j : Int) : Prop := 0 ≤ j ∧ j ≤ 1000 ∧ i.natAbs < 1606938044258990275541962092341162602522202993782792835301376
theorem bits200 {a : Int} (h : a.natAbs < 1606938044258990275541962092341162602522202993782792835301376) : Builtin.Int.intBits a ≤ 200 := by
  unfold Builtin.Int.intBits
  by_cases e : a = 0
  · subst e
    decide
  · have hn : a.natAbs ≠ 0 := by omega
    have : a.natAbs.log2 < 200 := (Nat.log2_lt hn).mpr h
    split <;> omega
theorem op_powX : OpR X (binaryOp .Pow) (rI CPowX fun i j => .int (i ^ j.toNat)) := opI fun _ _ _ _ _ _ _ hc q => pow_int hc.1 (by
  have hb := bits200 hc.2.2
  have h1 := Int.mul_le_mul_of_nonneg_right (show (Builtin.Int.intBits _ : Int) ≤ 200 by exact_mod_cast hb) hc.1
  have := hc.2.1
  omega) q

def opr : Op → Operator
  | .add => .Add | .sub => .Sub | .mul => .Mult | .div => .FloorDiv | .mod => .Mod | .pow => .Pow | .band => .BitAnd | .bor => .BitOr | .shl => .LShift | .shr => .RShift

/-- a tuple of the store's values is laid -/
theorem tup_laid {K : PySem.W.Frag} {cs : List C} {vs : List V} {p : Addr} (q : RVs K m H cs vs) (hn : H p = none) : RV K m (upd H p (.tup vs)) (.tup cs) (.ref p) :=
  ⟨p, vs, rfl, SqT.of upd_same, q.ext (Ext.new hn)⟩
theorem lst_laid {K : PySem.W.Frag} {p : Addr} {ws : List V} (rl : Rl K m h H) : RV K (m ++ [p]) (upd H p (.lst ws)) (.ref h.length) (.ref p) :=
  ⟨p, by rw [← rl.len, List.getElem?_append_right (Nat.le_refl _)]; simp, rfl, ws, upd_same⟩
theorem dct_laid {K : PySem.W.Frag} {p : Addr} {ws : List (List Key × V)} (rl : Rl K m h H) : RV K (m ++ [p]) (upd H p (.dT ws)) (.dref h.length) (.ref p) :=
  ⟨p, by rw [← rl.len, List.getElem?_append_right (Nat.le_refl _)]; simp, rfl, .inl ⟨ws, upd_same⟩⟩
theorem seq_read {K : PySem.W.Frag} {c : C} {v : V} {xs : List C} (rl : Rl K m h H) (rv : RV K m H c v) (e : seqOf h c = some xs) : ∃ a vs, v = .ref a ∧ (SqL K H a vs ∨ SqT K H a vs) ∧ RVs K m H xs vs := by
  cases c with
  | ref n =>
    obtain ⟨a, e1, e2, el⟩ := rv
    obtain ⟨vs, q1, q2⟩ := rl.get' e1 el e
    exact ⟨a, vs, e2, .inl (SqL.of q1), q2⟩
  | tup cs =>
    obtain ⟨a, vs, e1, e2, e3⟩ := rv
    cases e
    exact ⟨a, vs, e1, .inr e2, e3⟩
  | frz cs =>
    obtain ⟨a, vs, e1, e2, e3⟩ := rv
    cases e
    exact ⟨a, vs, e1, .inl e2.sq, e3⟩
  | non => cases e
  | bl _ => cases e
  | int _ => cases e
  | str _ => cases e
  | rep _ => cases e
  | dref _ => cases e
theorem line_le {n : Nat} (h : n ≤ lineN) : n ≤ sizeLine := by rw [sizeLine_eq]; unfold lineN at h; omega
theorem line_lt {n : Nat} (h : n < lineN) : n < sizeLine := by rw [sizeLine_eq]; unfold lineN at h; omega
theorem RVs.flat {K : PySem.W.Frag} {cs : List C} {vs : List V} (q : RVs K m H cs vs) : ∀ k : Nat, RVs K m H (List.replicate k cs).flatten (List.replicate k vs).flatten
  | 0 => rfl
  | k + 1 => by
    rw [List.replicate_succ, List.replicate_succ, List.flatten_cons, List.flatten_cons]
    exact RVs.append q (RVs.flat q k)
theorem small_of {i : Int} (h : tooBig i = false) : i.natAbs < 2 ^ 60000 := by
  unfold tooBig at h
  have h1 : ¬ big ≤ i.natAbs := of_decide_eq_false h
  exact Nat.lt_of_not_le fun z => h1 (by unfold big; exact z)

/-- arithmetic -/
theorem binop_ok (o : Op) : ∃ r : R2, OpR X (binaryOp (opr o)) r ∧ ∀ (m : List Addr) (H : Hp) (h : Hc) (x y : C) (v u : V) (Q : VK), Rl X.K m h H → RV X.K m H x v → RV X.K m H y u → Post et X.K W m H (relV X.K) Q (binop o x y h) → r v u H Q := by
  cases o with
  | add =>
    refine ⟨_, op_add.or (op_cat.or (op_catA.or op_add_str)), fun m H h x y v u Q rl rx ry p => ?_⟩
    replace p : Post et X.K W m H (relV X.K) Q (addC x y h) := p
    cases x <;> cases y <;> try (exact False.elim p)
    · rename_i i j
      exact .inl ⟨i, j, rx, ry, p m H _ Ext.refl rl rfl⟩
    · rename_i i j
      unfold addC at p
      simp only at p
      split at p
      · exact False.elim p
      · rename_i hz
        exact .inr (.inr (.inr ⟨i, j, rx, ry, line_le (by omega), p m H _ Ext.refl rl rfl⟩))
    · rename_i xs ys
      unfold addC at p
      simp only at p
      split at p
      · exact False.elim p
      · rename_i hn
        obtain ⟨a, vs, e1, e2, e3⟩ := rx
        obtain ⟨b, us, f1, f2, f3⟩ := ry
        have l1 := e3.length
        have l2 := f3.length
        refine .inr (.inr (.inl ⟨a, b, vs, us, e1, f1, e2, f2, by rw [← l1, ← l2]; exact line_le (by omega), fun z => ?_, fun _ z => ?_, fun _ _ p' hp => ?_⟩))
        · have : xs = [] := List.eq_nil_of_length_eq_zero (by rw [l1, z]; rfl)
          subst this
          exact p m _ _ Ext.refl rl ⟨b, us, rfl, f2, f3⟩
        · have : ys = [] := List.eq_nil_of_length_eq_zero (by rw [l2, z]; rfl)
          subst this
          rw [List.append_nil] at p
          exact p m _ _ Ext.refl rl ⟨a, vs, rfl, e2, e3⟩
        · exact p m _ _ (Ext.new hp) (rl.new hp) (tup_laid (RVs.append e3 f3) hp)
    · rename_i a b
      unfold addC at p
      simp only at p
      split at p
      · rename_i xs ys e1 e2
        split at p
        · exact False.elim p
        · rename_i hz
          obtain ⟨a', q1, q2, ql⟩ := rx
          obtain ⟨b', r1, r2, r3⟩ := ry
          obtain ⟨vs, s1, s2⟩ := rl.get' q1 ql e1
          obtain ⟨us, t1, t2⟩ := rl.get' r1 r3 e2
          refine .inr (.inl ⟨a', b', vs, us, q2, r2, s1, t1, by rw [← s2.length, ← t2.length]; exact line_le (by omega), fun p' hp => ?_⟩)
          exact p _ _ _ (Ext.newL hp) (rl.newL hp (RVs.append s2 t2)) (lst_laid rl)
      · exact False.elim p
  | sub =>
    refine ⟨_, op_sub.or op_subBB, fun m H h x y v u Q rl rx ry p => ?_⟩
    replace p : Post et X.K W m H (relV X.K) Q (subC x y h) := p
    cases x <;> cases y <;> try (exact False.elim p)
    · rename_i i j
      exact .inr ⟨i, j, rx, ry, p m H _ Ext.refl rl rfl⟩
    · rename_i i j
      exact .inl ⟨i, j, rx, ry, p m H _ Ext.refl rl rfl⟩
  | mul =>
    refine ⟨_, op_mulX.or (op_rep.or op_repT), fun m H h x y v u Q rl rx ry p => ?_⟩
    replace p : Post et X.K W m H (relV X.K) Q (mulC x y h) := p
    cases x <;> cases y <;> try (exact False.elim p)
    · rename_i i j
      unfold mulC at p
      simp only at p
      split at p
      · exact False.elim p
      · rename_i hb
        have hb' : tooBig i = false ∧ tooBig j = false := by
          cases h1 : tooBig i <;> cases h2 : tooBig j <;> simp_all
        exact .inl ⟨i, j, rx, ry, mulx_ok (a := 60000) (b := 60000) (small_of hb'.1) (small_of hb'.2) (by omega), p m H _ Ext.refl rl rfl⟩
    · rename_i xs k
      unfold mulC at p
      simp only at p
      split at p
      · exact False.elim p
      · rename_i hz
        obtain ⟨a, vs, e1, e2, e3⟩ := rx
        have l1 := e3.length
        have z1 : vs ≠ [] := by rintro rfl; simp at l1; exact hz (.inl l1)
        have z2 : ¬ k < 2 := fun z => hz (.inr (.inl z))
        have z3 : ¬ 1000 < k := fun z => hz (.inr (.inr (.inl z)))
        have z4 : ¬ 1000 < xs.length := fun z => hz (.inr (.inr (.inr z)))
        refine .inr (.inr ⟨a, k, vs, e1, ry, e2, z1, by omega, by omega, by omega, fun p' hp => ?_⟩)
        exact p m _ _ (Ext.new hp) (rl.new hp) (tup_laid (RVs.flat e3 _) hp)
    · rename_i a k
      unfold mulC at p
      simp only at p
      split at p
      · rename_i xs e1
        split at p
        · exact False.elim p
        · rename_i hz
          obtain ⟨a', q1, q2, ql⟩ := rx
          obtain ⟨vs, s1, s2⟩ := rl.get' q1 ql e1
          have z1 : ¬ k < 0 := fun z => hz (.inl z)
          have z2 : ¬ lineN < xs.length * k.toNat := fun z => hz (.inr (.inl z))
          have z3 : ¬ 1000000000 ≤ k := fun z => hz (.inr (.inr z))
          refine .inr (.inl ⟨a', k, vs, q2, ry, s1, by omega, by omega, by rw [← s2.length]; exact line_le (by omega), fun p' hp => ?_⟩)
          exact p _ _ _ (Ext.newL hp) (rl.newL hp (RVs.flat s2 _)) (lst_laid rl)
      · exact False.elim p
  | div =>
    refine ⟨_, op_fdivX, fun m H h x y v u Q rl rx ry p => ?_⟩
    replace p : Post et X.K W m H (relV X.K) Q (divC x y h) := p
    cases x <;> cases y <;> try (exact False.elim p)
    rename_i i j
    unfold divC at p
    simp only at p
    split at p
    · exact False.elim p
    · rename_i hz
      have z1 : j ≠ 0 := fun z => hz (.inl z)
      have z2 : j.natAbs < 2 ^ 8000 := Nat.lt_of_not_le fun z => hz (.inr (by unfold divLine; exact z))
      exact ⟨i, j, rx, ry, ⟨z1, Nat.lt_of_lt_of_le (PySem.Flt.log2_lt_of (by omega) z2) (by omega)⟩, p m H _ Ext.refl rl rfl⟩
  | mod =>
    refine ⟨_, op_modN, fun m H h x y v u Q rl rx ry p => ?_⟩
    replace p : Post et X.K W m H (relV X.K) Q (modC x y h) := p
    cases x <;> cases y <;> try (exact False.elim p)
    rename_i i j
    unfold modC at p
    simp only at p
    split at p
    · exact False.elim p
    · rename_i hz
      exact ⟨i, j, rx, ry, hz, p m H _ Ext.refl rl rfl⟩
  | pow =>
    refine ⟨_, op_powX, fun m H h x y v u Q rl rx ry p => ?_⟩
    replace p : Post et X.K W m H (relV X.K) Q (powC x y h) := p
    cases x <;> cases y <;> try (exact False.elim p)
    rename_i i j
    unfold powC at p
    simp only at p
    split at p
    · rename_i hz
      exact ⟨i, j, rx, ry, hz, p m H _ Ext.refl rl rfl⟩
    · exact False.elim p
  | band =>
    refine ⟨_, op_and, fun m H h x y v u Q rl rx ry p => ?_⟩
    replace p : Post et X.K W m H (relV X.K) Q (bandC x y h) := p
    cases x <;> cases y <;> try (exact False.elim p)
    rename_i i j
    exact ⟨i, j, rx, ry, p m H _ Ext.refl rl rfl⟩
  | bor =>
    refine ⟨_, op_or, fun m H h x y v u Q rl rx ry p => ?_⟩
    replace p : Post et X.K W m H (relV X.K) Q (borC x y h) := p
    cases x <;> cases y <;> try (exact False.elim p)
    rename_i i j
    exact ⟨i, j, rx, ry, p m H _ Ext.refl rl rfl⟩
  | shl =>
    refine ⟨_, op_shl, fun m H h x y v u Q rl rx ry p => ?_⟩
    replace p : Post et X.K W m H (relV X.K) Q (shlC x y h) := p
    cases x <;> cases y <;> try (exact False.elim p)
    rename_i i j
    unfold shlC at p
    simp only at p
    split at p
    · rename_i hz
      exact ⟨i, j, rx, ry, ⟨hz.1, by omega, by omega⟩, p m H _ Ext.refl rl rfl⟩
    · exact False.elim p
  | shr =>
    refine ⟨_, op_shr, fun m H h x y v u Q rl rx ry p => ?_⟩
    replace p : Post et X.K W m H (relV X.K) Q (shrC x y h) := p
    cases x <;> cases y <;> try (exact False.elim p)
    rename_i i j
    unfold shrC at p
    simp only at p
    split at p
    · rename_i hz
      exact ⟨i, j, rx, ry, hz.1, p m H _ Ext.refl rl rfl⟩
    · exact False.elim p

/-! ### data -/
theorem mapM_dp {K : PySem.W.Frag} {f : C → Option PyData} (ih : ∀ c v d, RV K m H c v → f c = some d → Dp K H v d) : ∀ (cs : List C) (vs : List V) (ds : List PyData), RVs K m H cs vs → cs.mapM f = some ds → DpAll K H vs ds
  | [], _, ds, q, e => by
    cases q
    simp at e
    subst e
    exact .nil
  | c :: cs, _, ds, q, e => by
    obtain ⟨v, r, rfl, q1, q2⟩ := q
    rw [List.mapM_cons] at e
    cases h1 : f c with
    | none => rw [h1] at e; simp at e
    | some d =>
      cases h2 : cs.mapM f with
      | none => rw [h1, h2] at e; simp at e
      | some ds' =>
        rw [h1, h2] at e
        simp at e
        subst e
        exact .cons (ih c v d q1 h1) (mapM_dp ih cs r ds' q2 h2)
theorem toD_dp {K : PySem.W.Frag} (rl : Rl K m h H) : ∀ (n : Nat) (c : C) (v : V) (d : PyData), RV K m H c v → toD h n c = some d → Dp K H v d
  | 0, _, _, _, _, e => by cases e
  | n + 1, c, v, d, rv, e => by
    have ih := fun c v d => toD_dp rl n c v d
    cases c with
    | non => cases rv; cases e; exact .non
    | bl b => cases rv; cases e; exact .bl b
    | int i => cases rv; cases e; exact .int i
    | str x => cases rv; cases e; exact .str x
    | rep d => obtain ⟨rfl, _⟩ := rv; cases e; exact .str _
    | dref _ => cases e
    | tup cs =>
      obtain ⟨a, vs, rfl, e2, e3⟩ := rv
      have e' : (cs.mapM (toD h n)).map PyData.tuple = some d := e
      cases hm : cs.mapM (toD h n) with
      | none => rw [hm] at e'; cases e'
      | some ds =>
        rw [hm] at e'
        cases e'
        exact .tup e2 (mapM_dp ih cs vs ds e3 hm)
    | frz cs =>
      obtain ⟨a, vs, rfl, e2, e3⟩ := rv
      have e' : (cs.mapM (toD h n)).map PyData.list = some d := e
      cases hm : cs.mapM (toD h n) with
      | none => rw [hm] at e'; cases e'
      | some ds =>
        rw [hm] at e'
        cases e'
        exact .lst e2.sq (mapM_dp ih cs vs ds e3 hm)
    | ref k =>
      obtain ⟨a, e1, rfl, el⟩ := rv
      have e' : (match h[k]? with | some cs => (cs.mapM (toD h n)).map PyData.list | none => none) = some d := e
      cases hk : h[k]? with
      | none => rw [hk] at e'; cases e'
      | some cs =>
        rw [hk] at e'
        obtain ⟨vs, q1, q2⟩ := rl.get' e1 el hk
        have e2 : (cs.mapM (toD h n)).map PyData.list = some d := e'
        cases hm : cs.mapM (toD h n) with
        | none => rw [hm] at e2; cases e2
        | some ds =>
          rw [hm] at e2
          cases e2
          exact .lst (SqL.of q1) (mapM_dp ih cs vs ds q2 hm)

/-! ### comparisons -/
def cmr : Cm → CmpOp
  | .eq => .Eq | .ne => .NotEq | .lt => .Lt | .le => .LtE | .gt => .Gt | .ge => .GtE | .is_ => .Is | .isn => .IsNot | .in_ => .In | .nin => .NotIn
def isV : V → V → Option Bool
  | x, .non => some (decide (x = .non))
  | .bl a, .bl b => some (a == b)
  | .bl _, _ => none
  | _, .bl _ => some false
  | _, _ => none
end
end Sh
set_option Elab.async false
set_option linter.all false
set_option autoImplicit false
set_option maxRecDepth 100000
set_option maxHeartbeats 4000000
/-! Sh, part E0: texts that repr gives; == of data. -/
namespace Sh
open PySem PySem.Spec PyProof.Rows L2

/-! ### texts that repr gives are texts -/
def cpsOk (x : Str) : Prop := ∀ c ∈ x.cps.toList, c < 0x110000
theorem strOk_iff (x : Str) : PyData.strOk x = true ↔ cpsOk x := by
  unfold PyData.strOk cpsOk
  rw [Array.all_eq_true_iff_forall_mem]
  constructor
  · intro h c hc
    simpa using h c (Array.mem_toList_iff.mp hc)
  · intro h c hc
    simpa using h c (Array.mem_toList_iff.mpr hc)
theorem cpsOk_of (z : String) : cpsOk (Str.ofString z) := by
  unfold cpsOk Str.ofString
  intro c hc
  have hc' : c ∈ cpsOfBytes 0 0 z.toByteArray.data.toList := by simpa using hc
  rw [cpsOfBytes_string] at hc'
  obtain ⟨ch, _, rfl⟩ := List.mem_map.mp hc'
  have h1 := ch.valid
  have h2 : ch.val.toNat = ch.toNat := rfl
  rcases h1 with h1 | h1
  · have h3 : ch.val.toNat < 55296 := h1
    omega
  · have h3 : ch.val.toNat < 1114112 := h1.2
    omega
theorem cpsOk_append {a b : Str} (ha : cpsOk a) (hb : cpsOk b) : cpsOk (a ++ b) := fun c hc => by
  have hc' : c ∈ (a.cps ++ b.cps).toList := hc
  rw [Array.toList_append] at hc'
  rcases List.mem_append.mp hc' with h | h
  · exact ha c h
  · exact hb c h
theorem reprChar_ok {q c : Nat} (hc : c < 0x110000) : ∀ d ∈ Builtin.Str.reprChar q c, d < 0x110000 := by
  have hex : ∀ w : Nat, ∀ d ∈ List.replicate (w - ((Nat.toDigits 16 c).map Char.toNat).length) 48 ++ (Nat.toDigits 16 c).map Char.toNat, d < 0x110000 := fun w d hd => by
    rcases List.mem_append.mp hd with h | h
    · have := (List.mem_replicate.mp h).2
      omega
    · obtain ⟨ch, _, rfl⟩ := List.mem_map.mp h
      have h2 : ch.val.toNat = ch.toNat := rfl
      rcases ch.valid with h1 | h1
      · have h3 : ch.val.toNat < 55296 := h1
        omega
      · have h3 : ch.val.toNat < 1114112 := h1.2
        omega
  intro d hd
  unfold Builtin.Str.reprChar at hd
  simp only at hd
  have two : ∀ a b : Nat, a < 0x110000 → b < 0x110000 → d ∈ [a, b] → d < 0x110000 := fun a b ha hb h => by
    simp only [List.mem_cons, List.not_mem_nil, or_false] at h
    rcases h with rfl | rfl <;> assumption
  have hx : ∀ a b : Nat, a < 0x110000 → b < 0x110000 → ∀ w, d ∈ [a, b] ++ (List.replicate (w - ((Nat.toDigits 16 c).map Char.toNat).length) 48 ++ (Nat.toDigits 16 c).map Char.toNat) → d < 0x110000 := fun a b ha hb w h => by
    rcases List.mem_append.mp h with h | h
    · exact two a b ha hb h
    · exact hex w d h
  split at hd
  · exact two _ _ (by omega) hc hd
  split at hd
  · exact two _ _ (by omega) (by omega) hd
  split at hd
  · exact two _ _ (by omega) (by omega) hd
  split at hd
  · exact two _ _ (by omega) (by omega) hd
  split at hd
  · have : d = c := by simpa using hd
    omega
  split at hd
  · exact hx _ _ (by omega) (by omega) 2 hd
  split at hd
  · exact hx _ _ (by omega) (by omega) 4 hd
  · exact hx _ _ (by omega) (by omega) 8 hd
theorem foldl_ok {q : Nat} : ∀ (l : List Nat) (acc : Array Nat), (∀ c ∈ l, c < 0x110000) → (∀ c ∈ acc.toList, c < 0x110000) → ∀ c ∈ (l.foldl (fun out c => out ++ (Builtin.Str.reprChar q c).toArray) acc).toList, c < 0x110000
  | [], acc, _, h => h
  | c :: l, acc, h1, h2 => by
    refine foldl_ok l _ (fun d hd => h1 d (List.mem_cons_of_mem _ hd)) (fun d hd => ?_)
    rw [Array.toList_append] at hd
    rcases List.mem_append.mp hd with h | h
    · exact h2 d h
    · exact reprChar_ok (h1 c List.mem_cons_self) d (by simpa using h)
theorem quote_ok (x : Str) : reprQuote x < 0x110000 := by
  unfold reprQuote
  split <;> omega
theorem cpsOk_repr {x : Str} (h : cpsOk x) : cpsOk (reprText x) := by
  unfold cpsOk reprText
  intro c hc
  rw [Array.toList_push, ← Array.foldl_toList] at hc
  rcases List.mem_append.mp hc with h' | h'
  · refine foldl_ok x.cps.toList #[reprQuote x] h (fun d hd => ?_) c h'
    have : d = reprQuote x := by simpa using hd
    rw [this]; exact quote_ok x
  · have : c = reprQuote x := by simpa using h'
    rw [this]; exact quote_ok x
theorem cpsOk_join {sep : Str} (hs : cpsOk sep) : ∀ ts : List Str, (∀ t ∈ ts, cpsOk t) → cpsOk (Str.join sep ts)
  | [], _ => fun c hc => by simp [Str.join, Str.empty] at hc
  | [t], h => h t (by simp)
  | t :: u :: r, h => by
    show cpsOk (t ++ sep ++ Str.join sep (u :: r))
    exact cpsOk_append (cpsOk_append (h t (by simp)) hs) (cpsOk_join hs (u :: r) fun v hv => h v (List.mem_cons_of_mem _ hv))
theorem cpsOk_from : ∀ (ts : List Str) (k : Nat) (acc : Str), cpsOk acc → (∀ t ∈ ts, cpsOk t) → cpsOk (textFrom k acc ts)
  | [], _, acc, h, _ => h
  | t :: ts, k, acc, h, h2 => by
    show cpsOk (textFrom (k + 1) (acc ++ (if k > 0 then ", " else "" : String) ++ t) ts)
    refine cpsOk_from ts _ _ (cpsOk_append (cpsOk_append h ?_) (h2 t (by simp))) fun v hv => h2 v (List.mem_cons_of_mem _ hv)
    split <;> exact cpsOk_of _
mutual
theorem shown_cps : ∀ d : PyData, d.canLay0 = true → cpsOk d.shown
  | .none, _ => cpsOk_of "None"
  | .bool b, _ => by
    unfold PyData.shown
    split
    · exact cpsOk_of "True"
    · exact cpsOk_of "False"
  | .int i, _ => cpsOk_of (toString i)
  | .str x, h => by
    have h' : PyData.strOk x = true := by simpa only [PyData.canLay0] using h
    exact cpsOk_repr ((strOk_iff x).mp h')
  | .list xs, h => by
    have h' : PyData.canLayAll0 xs = true := by simpa only [PyData.canLay0] using h
    have hs := shownAll_cps xs h'
    show cpsOk (listText (PyData.shownAll xs))
    unfold listText
    exact cpsOk_append (cpsOk_from _ 0 _ (cpsOk_of "[") hs) (cpsOk_of "]")
  | .tuple xs, h => by
    have h' : PyData.canLayAll0 xs = true := by simpa only [PyData.canLay0] using h
    have hs := shownAll_cps xs h'
    show cpsOk (tupleText (PyData.shownAll xs))
    unfold tupleText
    refine cpsOk_append (cpsOk_append (cpsOk_of "(") (cpsOk_join (cpsOk_of ", ") _ hs)) ?_
    split <;> exact cpsOk_of _
  | .dict _, h => by simp [PyData.canLay0] at h
theorem shownAll_cps : ∀ xs : List PyData, PyData.canLayAll0 xs = true → ∀ t ∈ PyData.shownAll xs, cpsOk t
  | [], _ => fun t ht => by simp [PyData.shownAll] at ht
  | x :: xs, h => by
    have h' : x.canLay0 = true ∧ PyData.canLayAll0 xs = true := by simpa [PyData.canLayAll0] using h
    intro t ht
    have ht' : t = x.shown ∨ t ∈ PyData.shownAll xs := by simpa [PyData.shownAll] using ht
    rcases ht' with rfl | ht'
    · exact shown_cps x h'.1
    · exact shownAll_cps xs h'.2 t ht'
end
theorem shown_ok {d : PyData} (h : d.canLay0 = true) : PyData.strOk d.shown = true := (strOk_iff _).mpr (shown_cps d h)
mutual
theorem leaves_of : ∀ d : PyData, d.canLay0 = true → d.showable = true → d.intsShort 1921 = true
  | .none, _, _ => rfl
  | .bool _, _, _ => rfl
  | .int i, _, h => by
    have h' : i.natAbs.log2 < 1920 := by simpa [PyData.showable] using h
    simp only [PyData.intsShort, decide_eq_true_eq]
    exact int_text_len_1921 h'
  | .str _, _, _ => rfl
  | .list xs, hc, h => by
    simp only [PyData.intsShort]
    exact leavesAll_of xs (by simpa only [PyData.canLay0] using hc) (by simpa only [PyData.showable] using h)
  | .tuple xs, hc, h => by
    simp only [PyData.intsShort]
    exact leavesAll_of xs (by simpa only [PyData.canLay0] using hc) (by simpa only [PyData.showable] using h)
  | .dict _, hc, _ => by simp [PyData.canLay0] at hc
theorem leavesAll_of : ∀ xs : List PyData, PyData.canLayAll0 xs = true → PyData.showableAll xs = true → PyData.intsShortAll 1921 xs = true
  | [], _, _ => rfl
  | x :: xs, hc, h => by
    have hc' : x.canLay0 = true ∧ PyData.canLayAll0 xs = true := by simpa [PyData.canLayAll0] using hc
    have h' : x.showable = true ∧ PyData.showableAll xs = true := by simpa [PyData.showableAll] using h
    simp only [PyData.intsShortAll, Bool.and_eq_true]
    exact ⟨leaves_of x hc'.1 h'.1, leavesAll_of xs hc'.2 h'.2⟩
end
theorem shown_short {d : PyData} (hc : d.canLay0 = true) (hs : d.showable = true) (hw : shortD d = true) : d.shown.length ≤ sizeLine := by
  have h1 := PyData.shown_le 1921 (by omega) d (PyData.leavesShort_of_canLay0 1921 d hc (leaves_of d hc hs))
  have h2 : d.weight ≤ 8000 := of_decide_eq_true hw
  rw [sizeLine_eq]
  omega

/-! ### == -/
mutual
theorem pdEq_eq : ∀ d e : PyData, pdEq d e = true → d = e
  | .none, e, h => by cases e <;> first | rfl | cases h
  | .bool a, e, h => by
    cases e <;> try (cases h; done)
    have h' : (a == _) = true := h
    rw [beq_iff_eq.mp h']
  | .int a, e, h => by
    cases e <;> try (cases h; done)
    have h' : (a == _) = true := h
    rw [beq_iff_eq.mp h']
  | .str a, e, h => by
    cases e <;> try (cases h; done)
    have h' : (a == _) = true := h
    rw [beq_iff_eq.mp h']
  | .list xs, e, h => by
    cases e <;> try (cases h; done)
    rw [pdEqs_eq xs _ h]
  | .tuple xs, e, h => by
    cases e <;> try (cases h; done)
    rw [pdEqs_eq xs _ h]
  | .dict _, e, h => by cases e <;> cases h
theorem pdEqs_eq : ∀ ds es : List PyData, pdEqs ds es = true → ds = es
  | [], es, h => by cases es <;> first | rfl | cases h
  | d :: ds, es, h => by
    cases es with
    | nil => cases h
    | cons e es =>
      have h' : (pdEq d e && pdEqs ds es) = true := h
      rw [Bool.and_eq_true] at h'
      rw [pdEq_eq d e h'.1, pdEqs_eq ds es h'.2]
end
section
variable {K : PySem.W.Frag} {m : List Addr} {H : Hp} {h : Hc}
theorem mapM_depth {f : C → Option PyData} {n : Nat} (ih : ∀ c d, f c = some d → d.depth ≤ n) : ∀ (cs : List C) (ds : List PyData), cs.mapM f = some ds → PyData.depthAll ds ≤ n
  | [], ds, e => by
    simp at e
    subst e
    simp [PyData.depthAll]
  | c :: cs, ds, e => by
    rw [List.mapM_cons] at e
    cases h1 : f c with
    | none => rw [h1] at e; simp at e
    | some d =>
      cases h2 : cs.mapM f with
      | none => rw [h1, h2] at e; simp at e
      | some ds' =>
        rw [h1, h2] at e
        simp at e
        subst e
        simp only [PyData.depthAll]
        exact Nat.max_le.mpr ⟨ih c d h1, mapM_depth ih cs ds' h2⟩
theorem toD_depth : ∀ (n : Nat) (c : C) (d : PyData), toD h n c = some d → d.depth ≤ n
  | 0, _, _, e => by cases e
  | n + 1, c, d, e => by
    have ih := fun c d => toD_depth n c d
    have two : ∀ (cs : List C) (g : List PyData → PyData), (∀ ds, (g ds).depth = PyData.depthAll ds + 1) → (cs.mapM (toD h n)).map g = some d → d.depth ≤ n + 1 := fun cs g hg e => by
      cases hm : cs.mapM (toD h n) with
      | none => rw [hm] at e; cases e
      | some ds =>
        rw [hm] at e
        cases e
        rw [hg]
        exact Nat.succ_le_succ (mapM_depth ih cs ds hm)
    cases c with
    | non => cases e; simp [PyData.depth]
    | bl b => cases e; simp [PyData.depth]
    | int i => cases e; simp [PyData.depth]
    | str x => cases e; simp [PyData.depth]
    | rep d => cases e; simp [PyData.depth]
    | dref _ => cases e
    | tup cs => exact two cs .tuple (fun ds => by simp [PyData.depth]) e
    | frz cs => exact two cs .list (fun ds => by simp [PyData.depth]) e
    | ref k =>
      have e' : (match h[k]? with | some cs => (cs.mapM (toD h n)).map PyData.list | none => none) = some d := e
      cases hk : h[k]? with
      | none => rw [hk] at e'; cases e'
      | some cs =>
        rw [hk] at e'
        exact two cs .list (fun ds => by simp [PyData.depth]) e'
/-- what == gives, with the data -/
def EqIs (K : PySem.W.Frag) (H : Hp) (n : Nat) (v u : V) (b : Bool) : Prop := ∃ d e, Dp K H v d ∧ Dp K H u e ∧ d.canLay0 = true ∧ e.canLay0 = true ∧ d.depth ≤ n ∧ e.depth ≤ n ∧ PyData.eqv d e = b
theorem eqFar_ok (rl : Rl K m h H) {n : Nat} {x y : C} {v u : V} {b : Bool} (rx : RV K m H x v) (ry : RV K m H y u) (e : eqFar h n x y = some b) : EqIs K H n v u b := by
  unfold eqFar at e
  split at e
  · rename_i d d' e1 e2
    split at e
    · rename_i hs
      rw [Bool.and_eq_true] at hs
      cases e
      exact ⟨d, d', toD_dp rl n x v d rx e1, toD_dp rl n y u d' ry e2, SeqAt.canLay_of_shaped hs.1, SeqAt.canLay_of_shaped hs.2, toD_depth n x d e1, toD_depth n y d' e2, rfl⟩
    · cases e
  · cases e
theorem both_ok {n : Nat} {f : C → C → Option Bool} (ih : ∀ x y v u b, RV K m H x v → RV K m H y u → f x y = some b → EqIs K H n v u b) : ∀ (xs ys : List C) (vs us : List V) (b : Bool), RVs K m H xs vs → RVs K m H ys us → both f xs ys = some b →
    ∃ ds es, DpAll K H vs ds ∧ DpAll K H us es ∧ PyData.canLayAll0 ds = true ∧ PyData.canLayAll0 es = true ∧ PyData.depthAll ds ≤ n ∧ PyData.depthAll es ≤ n ∧ PyData.eqvAll ds es = b
  | [], ys, vs, us, b, q1, q2, e => by
    cases ys with
    | nil =>
      cases q1
      cases q2
      cases e
      exact ⟨[], [], .nil, .nil, rfl, rfl, Nat.zero_le _, Nat.zero_le _, rfl⟩
    | cons _ _ => cases e
  | x :: xs, ys, vs, us, b, q1, q2, e => by
    cases ys with
    | nil => cases e
    | cons y ys =>
      obtain ⟨v, r, rfl, a1, a2⟩ := q1
      obtain ⟨u, t, rfl, b1, b2⟩ := q2
      unfold both at e
      split at e
      · cases e
      · rename_i c hc
        split at e
        · cases e
        · rename_i c' hc'
          cases e
          obtain ⟨d, d', h1, h2, h3, h4, h5, h6, h7⟩ := ih x y v u c a1 b1 hc
          obtain ⟨ds, es, k1, k2, k3, k4, k5, k6, k7⟩ := both_ok ih xs ys r t c' a2 b2 hc'
          refine ⟨d :: ds, d' :: es, .cons h1 k1, .cons h2 k2, ?_, ?_, ?_, ?_, ?_⟩
          · simp only [PyData.canLayAll0, h3, k3, Bool.and_self]
          · simp only [PyData.canLayAll0, h4, k4, Bool.and_self]
          · simp only [PyData.depthAll]; exact Nat.max_le.mpr ⟨h5, k5⟩
          · simp only [PyData.depthAll]; exact Nat.max_le.mpr ⟨h6, k6⟩
          · simp only [PyData.eqvAll, h7, k7]
theorem ceq_all (rl : Rl K m h H) : ∀ (n : Nat) (x y : C) (v u : V) (b : Bool), RV K m H x v → RV K m H y u → ceq h n x y = some b → EqIs K H n v u b
  | 0, _, _, _, _, _, _, _, e => by cases e
  | n + 1, x, y, v, u, b, rx, ry, e => by
    have ih := fun x y v u b => ceq_all rl n x y v u b
    have far : eqFar h (n + 1) x y = some b → EqIs K H (n + 1) v u b := eqFar_ok rl rx ry
    unfold ceq at e
    split at e
    · rename_i d d'
      split at e
      · rename_i hd
        cases e
        cases pdEq_eq _ _ hd
        obtain ⟨rfl, hc⟩ := rx
        obtain ⟨rfl, _⟩ := ry
        refine ⟨.str d.shown, .str d.shown, .str _, .str _, ?_, ?_, ?_, ?_, ?_⟩
        · simp only [PyData.canLay0]; exact shown_ok hc
        · simp only [PyData.canLay0]; exact shown_ok hc
        · simp [PyData.depth]
        · simp [PyData.depth]
        · simp [PyData.eqv]
      · exact far e
    · rename_i i j
      cases e
      cases rx
      cases ry
      exact ⟨.int i, .int j, .int i, .int j, rfl, rfl, by simp [PyData.depth], by simp [PyData.depth], rfl⟩
    · rename_i xs ys
      split at e
      · obtain ⟨a, vs, rfl, e2, e3⟩ := rx
        obtain ⟨a', us, rfl, f2, f3⟩ := ry
        obtain ⟨ds, es, k1, k2, k3, k4, k5, k6, k7⟩ := both_ok ih xs ys vs us b e3 f3 e
        exact ⟨.tuple ds, .tuple es, .tup e2 k1, .tup f2 k2, by simpa only [PyData.canLay0] using k3, by simpa only [PyData.canLay0] using k4,
          by simp only [PyData.depth]; omega, by simp only [PyData.depth]; omega, by simpa only [PyData.eqv] using k7⟩
      · exact far e
    · rename_i a a'
      split at e
      · rename_i xs ys h1 h2
        split at e
        · obtain ⟨p, q1, rfl, ql1⟩ := rx
          obtain ⟨p', q2, rfl, ql2⟩ := ry
          obtain ⟨vs, s1, s2⟩ := rl.get' q1 ql1 h1
          obtain ⟨us, t1, t2⟩ := rl.get' q2 ql2 h2
          obtain ⟨ds, es, k1, k2, k3, k4, k5, k6, k7⟩ := both_ok ih xs ys vs us b s2 t2 e
          exact ⟨.list ds, .list es, .lst (SqL.of s1) k1, .lst (SqL.of t1) k2, by simpa only [PyData.canLay0] using k3, by simpa only [PyData.canLay0] using k4,
            by simp only [PyData.depth]; omega, by simp only [PyData.depth]; omega, by simpa only [PyData.eqv] using k7⟩
        · exact far e
      · cases e
    · exact far e
theorem ceq_ok (rl : Rl K m h H) (n : Nat) (hn : n ≤ 64) (x y : C) (v u : V) (b : Bool) (rx : RV K m H x v) (ry : RV K m H y u) (e : ceq h n x y = some b) :
    ∃ d d', Dp K H v d ∧ Dp K H u d' ∧ SeqAt.shaped d = true ∧ SeqAt.shaped d' = true ∧ PyData.eqv d d' = b := by
  obtain ⟨d, d', h1, h2, h3, h4, h5, h6, h7⟩ := ceq_all rl n x y v u b rx ry e
  refine ⟨d, d', h1, h2, ?_, ?_, h7⟩
  · unfold SeqAt.shaped
    rw [h3, decide_eq_true (Nat.le_trans h5 hn)]
    rfl
  · unfold SeqAt.shaped
    rw [h4, decide_eq_true (Nat.le_trans h6 hn)]
    rfl
end
end Sh
set_option Elab.async false
set_option linter.all false
set_option autoImplicit false
set_option maxRecDepth 100000
set_option maxHeartbeats 4000000
/-! Sh, part E: comparisons, truth, items, slices, built-ins. -/
namespace Sh
open PySem PySem.Spec PyProof.Rows L2
section
variable {X : Cx} {et : ETab} {W : Value → Option Addr → Hp → Prop} {m : List Addr} {H : Hp} {h : Hc} {x y : C} {v u : V} {Q : VK}
theorem non_iff {K : PySem.W.Frag} {c : C} {v : V} (r : RV K m H c v) : decide (v = .non) = (match c with | .non => true | _ => false) := by
  cases c with
  | non => cases r; rfl
  | bl _ => cases r; rfl
  | int _ => cases r; rfl
  | str _ => cases r; rfl
  | rep _ => obtain ⟨rfl, _⟩ := r; rfl
  | tup _ => obtain ⟨a, vs, rfl, _⟩ := r; rfl
  | ref _ => obtain ⟨a, _, rfl, _⟩ := r; rfl
  | dref _ => obtain ⟨a, _, rfl, _⟩ := r; rfl
  | frz _ => obtain ⟨a, vs, rfl, _⟩ := r; rfl
def rInT (K : PySem.W.Frag) : R2 := fun x y H Q => ∃ d ds, Dp K H x d ∧ Dp K H y (.tuple ds) ∧ SeqAt.shaped d = true ∧ SeqAt.shaped (.tuple ds) = true ∧ Q (.bl (ds.any fun z => PyData.eqv z d)) H
def rNotInT (K : PySem.W.Frag) : R2 := fun x y H Q => ∃ d ds, Dp K H x d ∧ Dp K H y (.tuple ds) ∧ SeqAt.shaped d = true ∧ SeqAt.shaped (.tuple ds) = true ∧ Q (.bl (!ds.any fun z => PyData.eqv z d)) H
theorem op_inT (hu : X.A.units + 65 < cLine) : OpR X (compareOp .In) (rInT X.K) := by
  intro pins s σ H x y v u Q I rx ry h
  obtain ⟨d, ds, hd, he, sd, se, q⟩ := h
  obtain ⟨as, r1⟩ := Dp.reads I d x v hd rx
  obtain ⟨bs, r2⟩ := Dp.reads I (.tuple ds) y u he ry
  exact SeqAt.in_tuple_reads r2 r1 (SeqAt.canLay_of_shaped se) (SeqAt.canLay_of_shaped sd) (room_in_shaped sd hu) ⟨.bl _, H, I, rfl, q⟩
theorem op_notInT (hu : X.A.units + 65 < cLine) : OpR X (compareOp .NotIn) (rNotInT X.K) := by
  intro pins s σ H x y v u Q I rx ry h
  obtain ⟨d, ds, hd, he, sd, se, q⟩ := h
  obtain ⟨as, r1⟩ := Dp.reads I d x v hd rx
  obtain ⟨bs, r2⟩ := Dp.reads I (.tuple ds) y u he ry
  exact SeqAt.notIn_tuple_reads r2 r1 (SeqAt.canLay_of_shaped se) (SeqAt.canLay_of_shaped sd) (room_in_shaped sd hu) ⟨.bl _, H, I, rfl, q⟩
theorem flat_of {K : PySem.W.Frag} {c : C} {v : V} (r : RV K m H c v) (f : flatC c = true) : v = vOf c ∧ flatV v = true := by
  cases c with
  | non => cases r; exact ⟨rfl, rfl⟩
  | bl b => cases r; exact ⟨rfl, rfl⟩
  | int i => cases r; exact ⟨rfl, rfl⟩
  | str z => cases r; exact ⟨rfl, rfl⟩
  | rep _ => cases f
  | tup _ => cases f
  | ref _ => cases f
  | frz _ => cases f
  | dref _ => cases f
theorem flats_of {K : PySem.W.Frag} : ∀ {cs : List C} {vs : List V}, RVs K m H cs vs → cs.all flatC = true → vs = cs.map vOf ∧ vs.all flatV = true
  | [], _, q, _ => by cases q; exact ⟨rfl, rfl⟩
  | c :: cs, _, q, f => by
    obtain ⟨v, r, rfl, q1, q2⟩ := q
    rw [List.all_cons, Bool.and_eq_true] at f
    obtain ⟨e1, e2⟩ := flat_of q1 f.1
    obtain ⟨f1, f2⟩ := flats_of q2 f.2
    exact ⟨by rw [e1, f1]; rfl, by rw [List.all_cons, e2, f2]; rfl⟩
/-- what in tells -/
def InR (K : PySem.W.Frag) (H : Hp) (v u : V) (b : Bool) : Prop :=
    (∃ (c : Nat) (z : Str), v = .str ⟨#[c]⟩ ∧ u = .str z ∧ b = decide (c ∈ z.cps.toList)) ∨
    (∃ p xs, u = .ref p ∧ (SqL K H p xs ∨ SqT K H p xs) ∧ flatV v = true ∧ xs.all flatV = true ∧ b = inV v xs) ∨
    (∃ d ds, Dp K H v d ∧ Dp K H u (.list ds) ∧ SeqAt.shaped d = true ∧ SeqAt.shaped (.list ds) = true ∧ b = ds.any fun z => PyData.eqv z d) ∨
    (∃ d ds, Dp K H v d ∧ Dp K H u (.tuple ds) ∧ SeqAt.shaped d = true ∧ SeqAt.shaped (.tuple ds) = true ∧ b = ds.any fun z => PyData.eqv z d)
theorem inC_ok (rl : Rl X.K m h H) (rx : RV X.K m H x v) (ry : RV X.K m H y u) {b : Bool} (e : inC x y h = some b) : InR X.K H v u b := by
  have deep : inD (toD h 60 x) (toD h 60 y) = some b → (∃ d ds, Dp X.K H v d ∧ Dp X.K H u (.list ds) ∧ SeqAt.shaped d = true ∧ SeqAt.shaped (.list ds) = true ∧ b = ds.any fun z => PyData.eqv z d) ∨
    (∃ d ds, Dp X.K H v d ∧ Dp X.K H u (.tuple ds) ∧ SeqAt.shaped d = true ∧ SeqAt.shaped (.tuple ds) = true ∧ b = ds.any fun z => PyData.eqv z d) := fun e => by
    unfold inD at e
    split at e
    · rename_i d ds e1 e2
      split at e
      · rename_i hs
        rw [Bool.and_eq_true] at hs
        cases e
        exact .inl ⟨d, ds, toD_dp rl 60 x v d rx e1, toD_dp rl 60 y u _ ry e2, hs.1, hs.2, rfl⟩
      · cases e
    · rename_i d ds e1 e2
      split at e
      · rename_i hs
        rw [Bool.and_eq_true] at hs
        cases e
        exact .inr ⟨d, ds, toD_dp rl 60 x v d rx e1, toD_dp rl 60 y u _ ry e2, hs.1, hs.2, rfl⟩
      · cases e
    · cases e
  have sq : (match seqOf h y with
      | none => none
      | some ys => if flatC x && ys.all flatC then some (ys.any fun c => L2.eqV (vOf c) (vOf x)) else inD (toD h 60 x) (toD h 60 y)) = some b → InR X.K H v u b := fun e => by
    cases e1 : seqOf h y with
    | none => rw [e1] at e; cases e
    | some ys =>
      rw [e1] at e
      replace e : (if flatC x && ys.all flatC then some (ys.any fun c => L2.eqV (vOf c) (vOf x)) else inD (toD h 60 x) (toD h 60 y)) = some b := e
      split at e
      · rename_i hf
        rw [Bool.and_eq_true] at hf
        obtain ⟨a, vs, rfl, hs, q⟩ := seq_read rl ry e1
        obtain ⟨f1, f2⟩ := flat_of rx hf.1
        obtain ⟨g1, g2⟩ := flats_of q hf.2
        refine .inr (.inl ⟨a, vs, rfl, hs, f2, g2, ?_⟩)
        cases e
        unfold inV
        rw [g1, f1, List.any_map]
        rfl
      · exact .inr (.inr (deep e))
  unfold inC at e
  cases y with
  | str z =>
    cases ry
    replace e : inS x z = some b := e
    unfold inS at e
    split at e
    · rename_i a
      cases rx
      split at e
      · rename_i c hc
        cases e
        obtain ⟨cps⟩ := a
        subst hc
        exact .inl ⟨c, z, rfl, rfl, rfl⟩
      · cases e
    · cases e
  | non => exact sq e
  | bl _ => exact sq e
  | int _ => exact sq e
  | rep _ => exact sq e
  | dref _ => exact sq e
  | tup _ => exact sq e
  | ref _ => exact sq e
  | frz _ => exact sq e
theorem intsC_rv {K : PySem.W.Frag} : ∀ {cs : List C} {vs : List V} {ns : List Int}, RVs K m H cs vs → intsC cs = some ns → vs = ns.map V.int ∧ cs = ns.map C.int
  | [], vs, ns, q, e => by
    cases e
    cases q
    exact ⟨rfl, rfl⟩
  | c :: cs, vs, ns, q, e => by
    obtain ⟨v, r, rfl, q1, q2⟩ := q
    cases c <;> try (cases e)
    rename_i i
    have e' : (intsC cs).map (i :: ·) = some ns := e
    cases hc : intsC cs with
    | none => rw [hc] at e'; cases e'
    | some ms =>
      rw [hc] at e'
      cases e'
      obtain ⟨r1, r2⟩ := intsC_rv q2 hc
      cases q1
      rw [r1, r2]
      exact ⟨rfl, rfl⟩
theorem cmp_int {o : Cm} {op : CmpOp} {g : Int → Int → Bool} {f : List Int → List Int → Bool} (ho : OpR X (compareOp op) (rI0 fun i j => .bl (g i j))) (ht : OpR X (compareOp op) (rOrdT X.K f))
    (hc : ∀ x y h, cmpop o x y h = match x, y with | .int i, .int j => .ok (.bl (g i j)) h | .tup xs, .tup ys => ordT f xs ys h | _, _ => .bad) :
    ∃ r : R2, OpR X (compareOp op) r ∧ ∀ (m : List Addr) (H : Hp) (h : Hc) (x y : C) (v u : V) (Q : VK), Rl X.K m h H → RV X.K m H x v → RV X.K m H y u → Post et X.K W m H (relV X.K) Q (cmpop o x y h) → r v u H Q := by
  refine ⟨_, ho.or ht, fun m H h x y v u Q rl rx ry p => ?_⟩
  rw [hc] at p
  cases x <;> cases y <;> try (exact False.elim p)
  · rename_i i j
    exact .inl ⟨i, j, rx, ry, p m H _ Ext.refl rl rfl⟩
  · rename_i xs ys
    replace p : Post et X.K W m H (relV X.K) Q (ordT f xs ys h) := p
    unfold ordT at p
    split at p
    · exact False.elim p
    · rename_i ns e1
      split at p
      · exact False.elim p
      · rename_i ms e2
        obtain ⟨a, vs, rfl, h2, h3⟩ := rx
        obtain ⟨b, us, rfl, g2, g3⟩ := ry
        obtain ⟨r1, _⟩ := intsC_rv h3 e1
        obtain ⟨r2, _⟩ := intsC_rv g3 e2
        subst r1 r2
        exact .inr ⟨a, b, ns, ms, rfl, rfl, h2, g2, p m H _ Ext.refl rl rfl⟩
theorem cmpop_ok (o : Cm) (hu : X.A.units + 65 < cLine) : ∃ r : R2, OpR X (compareOp (cmr o)) r ∧ ∀ (m : List Addr) (H : Hp) (h : Hc) (x y : C) (v u : V) (Q : VK), Rl X.K m h H → RV X.K m H x v → RV X.K m H y u → Post et X.K W m H (relV X.K) Q (cmpop o x y h) → r v u H Q := by
  cases o with
  | eq =>
    refine ⟨_, op_eqD (by omega), fun m H h x y v u Q rl rx ry p => ?_⟩
    unfold cmpop at p
    simp only at p
    split at p
    · rename_i b e1
      obtain ⟨d, e, h1, h2, h3, h4, h5⟩ := ceq_ok rl 40 (by omega) x y v u b rx ry e1
      exact ⟨d, e, h1, h2, h3, h4, by rw [h5]; exact p m H _ Ext.refl rl rfl⟩
    · exact False.elim p
  | ne =>
    refine ⟨_, op_neD (by omega), fun m H h x y v u Q rl rx ry p => ?_⟩
    unfold cmpop at p
    simp only at p
    split at p
    · rename_i b e1
      obtain ⟨d, e, h1, h2, h3, h4, h5⟩ := ceq_ok rl 40 (by omega) x y v u b rx ry e1
      exact ⟨d, e, h1, h2, h3, h4, by rw [h5]; exact p m H _ Ext.refl rl rfl⟩
    · exact False.elim p
  | lt => exact cmp_int op_lt (op_ltT (by have := depth_ti; omega)) (fun x y h => by cases x <;> cases y <;> rfl)
  | le => exact cmp_int op_le (op_leT (by have := depth_ti; omega)) (fun x y h => by cases x <;> cases y <;> rfl)
  | gt => exact cmp_int op_gt (op_gtT (by have := depth_ti; omega)) (fun x y h => by cases x <;> cases y <;> rfl)
  | ge => exact cmp_int op_ge (op_geT (by have := depth_ti; omega)) (fun x y h => by cases x <;> cases y <;> rfl)
  | is_ =>
    refine ⟨_, op_isN.or op_isBl, fun m H h x y v u Q rl rx ry p => ?_⟩
    have e : cmpop .is_ x y h = match isS x y with | some b => .ok (.bl b) h | none => .bad := rfl
    rw [e] at p
    have hn := non_iff rx
    cases y <;> try (cases x <;> exact False.elim p)
    · cases ry
      refine .inl ⟨rfl, ?_⟩
      rw [hn]
      cases x <;> exact p m H _ Ext.refl rl rfl
    · cases x <;> try (exact False.elim p)
      exact .inr ⟨_, _, rx, ry, p m H _ Ext.refl rl rfl⟩
  | isn =>
    refine ⟨_, op_notN.or op_notBl, fun m H h x y v u Q rl rx ry p => ?_⟩
    have e : cmpop .isn x y h = match isS x y with | some b => .ok (.bl (!b)) h | none => .bad := rfl
    rw [e] at p
    have hn := non_iff rx
    cases y <;> try (cases x <;> exact False.elim p)
    · cases ry
      refine .inl ⟨rfl, ?_⟩
      rw [hn]
      cases x <;> exact p m H _ Ext.refl rl rfl
    · cases x <;> try (exact False.elim p)
      exact .inr ⟨_, _, rx, ry, p m H _ Ext.refl rl rfl⟩
  | in_ =>
    refine ⟨_, op_in_sign.or (op_in_seq.or ((op_inD hu).or (op_inT hu))), fun m H h x y v u Q rl rx ry p => ?_⟩
    unfold cmpop at p
    simp only at p
    split at p
    · rename_i b e1
      have q := p m H (.bl b) Ext.refl rl rfl
      rcases inC_ok rl rx ry e1 with ⟨c, z, e2, e3, e4⟩ | ⟨a, xs, e2, e3, e4, e5, e6⟩ | ⟨d, ds, e2, e3, e4, e5, e6⟩ | ⟨d, ds, e2, e3, e4, e5, e6⟩
      · exact .inl ⟨c, z, e2, e3, by rw [← e4]; exact q⟩
      · exact .inr (.inl ⟨a, xs, e2, e3, e4, e5, by rw [← e6]; exact q⟩)
      · exact .inr (.inr (.inl ⟨d, ds, e2, e3, e4, e5, by rw [← e6]; exact q⟩))
      · exact .inr (.inr (.inr ⟨d, ds, e2, e3, e4, e5, by rw [← e6]; exact q⟩))
    · exact False.elim p
  | nin =>
    refine ⟨_, op_notIn_sign.or (op_notIn_seq.or ((op_notInD hu).or (op_notInT hu))), fun m H h x y v u Q rl rx ry p => ?_⟩
    unfold cmpop at p
    simp only at p
    split at p
    · rename_i b e1
      have q := p m H (.bl (!b)) Ext.refl rl rfl
      rcases inC_ok rl rx ry e1 with ⟨c, z, e2, e3, e4⟩ | ⟨a, xs, e2, e3, e4, e5, e6⟩ | ⟨d, ds, e2, e3, e4, e5, e6⟩ | ⟨d, ds, e2, e3, e4, e5, e6⟩
      · exact .inl ⟨c, z, e2, e3, by rw [← e4]; exact q⟩
      · exact .inr (.inl ⟨a, xs, e2, e3, e4, e5, by rw [← e6]; exact q⟩)
      · exact .inr (.inr (.inl ⟨d, ds, e2, e3, e4, e5, by rw [← e6]; exact q⟩))
      · exact .inr (.inr (.inr ⟨d, ds, e2, e3, e4, e5, by rw [← e6]; exact q⟩))
    · exact False.elim p

/-! ### truth -/
theorem isEmpty_rvs {K : PySem.W.Frag} {cs : List C} {vs : List V} (q : RVs K m H cs vs) : vs.isEmpty = cs.isEmpty := by
  cases cs with
  | nil => cases q; rfl
  | cons c cs => obtain ⟨v, r, rfl, _⟩ := q; rfl
theorem truth_ok (rl : Rl X.K m h H) (rx : RV X.K m H x v) {Q : Bool → Hp → Prop} (p : Post et X.K W m H relB Q (truth x h)) : ∃ k, TruV X.K v H k ∧ Q k H := by
  have sq : ∀ xs, seqOf h x = some xs → Post et X.K W m H relB Q (.ok (!xs.isEmpty) h) → ∃ k, TruV X.K v H k ∧ Q k H := fun xs e p => by
    obtain ⟨a, vs, rfl, hs, q⟩ := seq_read rl rx e
    refine ⟨!xs.isEmpty, ?_, p m H _ Ext.refl rl rfl⟩
    rw [← isEmpty_rvs q]
    rcases hs with hs | hs
    · exact .inl ⟨vs, hs, rfl⟩
    · exact .inr (.inl ⟨vs, hs, rfl⟩)
  cases x with
  | non => cases rx; exact ⟨false, rfl, p m H _ Ext.refl rl rfl⟩
  | bl b => cases rx; exact ⟨b, rfl, p m H _ Ext.refl rl rfl⟩
  | int i => cases rx; exact ⟨_, rfl, p m H _ Ext.refl rl rfl⟩
  | str z =>
    cases rx
    unfold truth at p
    simp only at p
    split at p
    · rename_i hz
      exact ⟨_, ⟨line_le hz, rfl⟩, p m H _ Ext.refl rl rfl⟩
    · exact False.elim p
  | rep d => exact False.elim p
  | dref _ => exact False.elim p
  | tup cs => exact sq cs rfl p
  | frz cs => exact sq cs rfl p
  | ref n =>
    have e : truth (.ref n) h = match h[n]? with | some xs => .ok (!xs.isEmpty) h | none => .bad := rfl
    rw [e] at p
    cases hn : h[n]? with
    | none => rw [hn] at p; exact False.elim p
    | some xs => rw [hn] at p; exact sq xs hn p

/-! ### items -/
theorem ixC_eq (n : Nat) (i : Int) : ixC n i = ixN n i := rfl
theorem item_ok : ∃ r : R2, IxR X r ∧ ∀ (m : List Addr) (H : Hp) (h : Hc) (x y : C) (v u : V) (Q : VK), Rl X.K m h H → RV X.K m H x v → RV X.K m H y u → Post et X.K W m H (relV X.K) Q (item x y h) → r v u H Q := by
  refine ⟨_, ix_list.or (ix_tup.or ix_str), fun m H h x y v u Q rl rx ry p => ?_⟩
  cases y <;> try (exact False.elim p)
  rename_i i
  unfold item at p
  simp only at p
  split at p
  · rename_i xs e1
    split at p
    · rename_i c e2
      obtain ⟨a, vs, rfl, hs, q⟩ := seq_read rl rx e1
      have hl := q.length
      cases hj : ixC xs.length i with
      | none => rw [hj] at e2; cases e2
      | some j =>
        rw [hj] at e2
        have e3 : xs[j]? = some c := e2
        obtain ⟨w, w1, w2⟩ := q.get e3
        have e4 : atI vs i = some w := by
          unfold atI
          rw [← hl, ← ixC_eq, hj]
          exact w1
        rcases hs with hs | hs
        · exact .inl ⟨a, vs, i, w, rfl, ry, hs, e4, p m H _ Ext.refl rl w2⟩
        · exact .inr (.inl ⟨a, vs, i, w, rfl, ry, hs, e4, p m H _ Ext.refl rl w2⟩)
    · exact False.elim p
  · cases x <;> try (exact False.elim p)
    rename_i z _
    unfold itemS at p
    simp only at p
    split at p
    · rename_i hz
      split at p
      · rename_i c e2
        cases hj : ixC z.cps.toList.length i with
        | none => rw [hj] at e2; cases e2
        | some j =>
          rw [hj] at e2
          have e3 : z.cps.toList[j]? = some c := e2
          have e4 : atI z.cps.toList i = some c := by
            unfold atI
            rw [← ixC_eq, hj]
            exact e3
          exact .inr (.inr ⟨z, i, c, rx, ry, line_le hz, e4, p m H _ Ext.refl rl rfl⟩)
      · exact False.elim p
    · exact False.elim p
theorem setitem_ok : ∀ (m : List Addr) (H : Hp) (h : Hc) (x y z : C) (v u t : V) (Q : Hp → Prop), Rl X.K m h H → RV X.K m H x v → RV X.K m H y u → RV X.K m H z t → Post et X.K W m H (fun _ _ _ (_ : Unit) => True) (fun _ H' => Q H') (setitem x y z h) → rSetL v u t H Q := by
  intro m H h x y z v u t Q rl rx ry rz p
  cases x <;> cases y <;> try (exact False.elim p)
  rename_i n i
  unfold setitem at p
  simp only at p
  split at p
  · rename_i xs e1
    split at p
    · rename_i j e2
      obtain ⟨a, q1, rfl, ql⟩ := rx
      obtain ⟨vs, q2, q3⟩ := rl.get' q1 ql e1
      refine ⟨a, vs, i, j, rfl, ry, q2, by rw [← q3.length]; exact e2, ?_⟩
      exact p m _ () (Ext.write (List.mem_of_getElem? q1) q2) (rl.write q1 q2 (q3.set j rz)) trivial
    · exact False.elim p
  · exact False.elim p
theorem cut_rvs {K : PySem.W.Frag} {cs : List C} {vs : List V} (q : RVs K m H cs vs) (lo hi : Option Int) : RVs K m H (cutC cs lo hi) (cutV vs lo hi) := by
  have hl := q.length
  unfold cutC cutV
  rw [← hl]
  exact RVs.take _ (RVs.drop _ q)
theorem slice_ok : ∃ r, SlR X r ∧ ∀ (m : List Addr) (H : Hp) (h : Hc) (x : C) (lo hi : Option Int) (v : V) (Q : VK), Rl X.K m h H → RV X.K m H x v → Post et X.K W m H (relV X.K) Q (slice x lo hi h) → r v lo hi H Q := by
  refine ⟨_, sl_list.or sl_tupA, fun m H h x lo hi v Q rl rx p => ?_⟩
  cases x <;> try (exact False.elim p)
  · rename_i cs
    obtain ⟨a, vs, rfl, e2, e3⟩ := rx
    unfold slice at p
    simp only at p
    have hl := e3.length
    refine .inr ⟨a, vs, rfl, e2, fun z => ?_, fun _ p' hp => ?_⟩
    · have hc : cutC cs lo hi = cs := by
        have z1 : sIxC cs.length 0 lo = 0 := by rw [hl]; exact z.1
        have z2 : sIxC cs.length cs.length hi = cs.length := by rw [hl]; exact z.2
        unfold cutC
        rw [z1, z2, List.drop_zero, Nat.sub_zero, List.take_length]
      rw [hc] at p
      exact p m _ _ Ext.refl rl ⟨a, vs, rfl, e2, e3⟩
    · exact p m _ _ (Ext.new hp) (rl.new hp) (tup_laid (cut_rvs e3 lo hi) hp)
  · rename_i n
    unfold slice at p
    simp only at p
    split at p
    · rename_i xs e1
      obtain ⟨a, q1, rfl, ql⟩ := rx
      obtain ⟨vs, q2, q3⟩ := rl.get' q1 ql e1
      exact .inl ⟨a, vs, rfl, SqL.of q2, fun p' hp => p _ _ _ (Ext.newL hp) (rl.newL hp (cut_rvs q3 lo hi)) (lst_laid rl)⟩
    · exact False.elim p
  · rename_i cs
    obtain ⟨a, vs, rfl, e2, e3⟩ := rx
    exact .inl ⟨a, vs, rfl, e2.sq, fun p' hp => p _ _ _ (Ext.newL hp) (rl.newL hp (cut_rvs e3 lo hi)) (lst_laid rl)⟩

/-! ### types -/
theorem kit_table (o : Option Ty) (T : Ty) : kitB (tyName o) T.name = some (isiT o T) := by
  cases o with
  | none => cases T <;> decide +kernel
  | some t => cases t <;> cases T <;> decide +kernel
theorem tyx_of {K : PySem.W.Frag} (rl : Rl K m h H) (rx : RV K m H x v) : TyX K H v (.type (tyName (tyC x))) := by
  cases x with
  | non => cases rx; exact .base .non
  | bl b => cases rx; exact .base (.bl b)
  | int i => cases rx; exact .base (.int i)
  | str z => cases rx; exact .base (.str z)
  | rep d => obtain ⟨rfl, _⟩ := rx; exact .base (.str _)
  | tup cs =>
    obtain ⟨a, vs, rfl, e2, e3⟩ := rx
    rcases e2 with (e2 | ⟨o, e2⟩) | ⟨o, its, n, e2, e4, _⟩
    · exact .base (.tup e2)
    · exact .fTuple e2
    · exact .kTuple e2 e4
  | ref n =>
    obtain ⟨a, e1, rfl, vs, q⟩ := rx
    exact .base (.lst q)
  | dref n =>
    obtain ⟨a, e1, rfl, q⟩ := rx
    rcases q with ⟨vs, q⟩ | ⟨vs, q⟩
    · exact .base (.dT q)
    · exact .base (.dK q)
  | frz cs =>
    obtain ⟨a, vs, rfl, e2, e3⟩ := rx
    rcases e2 with ⟨o, e2⟩ | ⟨o, its, n, e2, e4, _⟩
    · exact .base (.frz e2)
    · exact .kList e2 e4
end
end Sh
set_option Elab.async false
set_option linter.all false
set_option autoImplicit false
set_option maxRecDepth 100000
set_option maxHeartbeats 4000000
/-! Sh, part Dt: dicts of the store: what is read, what is written, the keys sorted. -/
namespace Sh
open PySem PySem.Spec PyProof.Rows L2
theorem intsC_map (ns : List Int) : intsC (ns.map C.int) = some ns := by
  induction ns with
  | nil => rfl
  | cons n ns ih =>
    show (intsC (ns.map C.int)).map (n :: ·) = _
    rw [ih]
    rfl
theorem inlI {ns ks : List Int} : (ns.map Sum.inl : List Key) = ks.map Sum.inl ↔ ns = ks := by
  constructor
  · intro h
    induction ns generalizing ks with
    | nil => cases ks with
      | nil => rfl
      | cons _ _ => simp at h
    | cons n ns ih => cases ks with
      | nil => simp at h
      | cons k ks =>
        rw [List.map_cons, List.map_cons] at h
        injection h with h1 h2
        injection h1 with h1
        rw [h1, ih h2]
  · rintro rfl
    rfl
theorem entIs_eq (c : C) (ns ks : List Int) : entIs ks (.tup (c :: ns.map C.int)) = decide (ns = ks) := by
  show decide (intsC (ns.map C.int) = some ks) = _
  rw [intsC_map]
  simp
section
variable {K : PySem.W.Frag} {m : List Addr} {H : Hp}
theorem DTs.length : ∀ {es : List C} {kvs : List (List Key × V)}, DTs K m H es kvs → es.length = kvs.length
  | [], _, h => by cases h; rfl
  | _ :: es, _, h => by
    obtain ⟨c, ns, v, r, e1, e2, e3, e4⟩ := h
    rw [e2, List.length_cons, List.length_cons, e4.length]
theorem DTs.get {ks : List Int} : ∀ {es : List C} {kvs : List (List Key × V)} {c : C}, DTs K m H es kvs → dgetC ks es = some c → ∃ v, valV kvs (ks.map Sum.inl) = some v ∧ RV K m H c v
  | [], _, c, h, g => by cases g
  | e :: es, _, c, h, g => by
    obtain ⟨c0, ns, v, r, rfl, rfl, e3, e4⟩ := h
    have g' : ((if entIs ks (.tup (c0 :: ns.map C.int)) then some (.tup (c0 :: ns.map C.int)) else es.find? (entIs ks))).bind entV = some c := by
      rw [← g]
      unfold dgetC
      rw [List.find?_cons]
      cases entIs ks (.tup (c0 :: ns.map C.int)) <;> rfl
    rw [entIs_eq] at g'
    by_cases hk : ns = ks
    · rw [decide_eq_true hk] at g'
      have : some c0 = some c := g'
      cases this
      exact ⟨v, valV_pos (by rw [hk]), e3⟩
    · rw [decide_eq_false hk] at g'
      obtain ⟨w, w1, w2⟩ := DTs.get (c := c) e4 g'
      exact ⟨w, by rw [valV_neg (fun z => hk (inlI.mp z))]; exact w1, w2⟩
theorem DTs.any {ks : List Int} : ∀ {es : List C} {kvs : List (List Key × V)}, DTs K m H es kvs → es.any (entIs ks) = kvs.any fun kv => decide (kv.1 = ks.map Sum.inl)
  | [], _, h => by cases h; rfl
  | e :: es, _, h => by
    obtain ⟨c0, ns, v, r, rfl, rfl, e3, e4⟩ := h
    rw [List.any_cons, List.any_cons, entIs_eq, e4.any]
    congr 1
    exact decide_eq_decide.mpr inlI.symm
theorem DTs.repl {ks : List Int} {c : C} {u : V} (q : RV K m H c u) : ∀ {es : List C} {kvs : List (List Key × V)}, DTs K m H es kvs →
    DTs K m H (es.map fun e => if entIs ks e then .tup (c :: ks.map C.int) else e) (kvs.map fun kv => if kv.1 = ks.map Sum.inl then (kv.1, u) else kv)
  | [], _, h => by cases h; rfl
  | e :: es, _, h => by
    obtain ⟨c0, ns, v, r, rfl, rfl, e3, e4⟩ := h
    have ih := DTs.repl (ks := ks) q e4
    rw [List.map_cons, List.map_cons, entIs_eq]
    by_cases hk : ns = ks
    · subst hk
      rw [decide_eq_true rfl, if_pos rfl]
      exact ⟨c, ns, u, _, rfl, by rw [if_pos rfl], q, ih⟩
    · rw [decide_eq_false hk, if_neg (fun z => hk (inlI.mp z))]
      exact ⟨c0, ns, v, _, rfl, rfl, e3, ih⟩
theorem DTs.snoc {ks : List Int} {c : C} {u : V} (q : RV K m H c u) : ∀ {es : List C} {kvs : List (List Key × V)}, DTs K m H es kvs → DTs K m H (es ++ [.tup (c :: ks.map C.int)]) (kvs ++ [(ks.map Sum.inl, u)])
  | [], _, h => by
    cases h
    exact ⟨c, ks, u, [], rfl, rfl, q, rfl⟩
  | e :: es, _, h => by
    obtain ⟨c0, ns, v, r, rfl, rfl, e3, e4⟩ := h
    exact ⟨c0, ns, v, _, rfl, rfl, e3, DTs.snoc q e4⟩
theorem DTs.put {ks : List Int} {c : C} {u : V} (q : RV K m H c u) {es : List C} {kvs : List (List Key × V)} (h : DTs K m H es kvs) : DTs K m H (dputC ks c es) (putK kvs (ks.map Sum.inl) u) := by
  unfold dputC putK
  rw [h.any]
  split
  · exact h.repl q
  · exact h.snoc q
theorem DTs.keys : ∀ {es : List C} {kvs : List (List Key × V)} {kss : List (List Int)}, DTs K m H es kvs → es.mapM entK = some kss → kvs.map (·.1) = kss.map fun ns => ns.map Sum.inl
  | [], _, kss, h, e => by
    cases h
    simp at e
    subst e
    rfl
  | e0 :: es, _, kss, h, e => by
    obtain ⟨c0, ns, v, r, rfl, rfl, e3, e4⟩ := h
    rw [List.mapM_cons] at e
    have hk : entK (.tup (c0 :: ns.map C.int)) = some ns := intsC_map ns
    rw [hk] at e
    cases hm : es.mapM entK with
    | none => rw [hm] at e; simp at e
    | some r0 =>
      rw [hm] at e
      simp at e
      subst e
      rw [List.map_cons, List.map_cons, e4.keys hm]
end
/-! ### what is read -/
section
variable {X : Cx} {et : ETab} {W : Value → Option Addr → Hp → Prop} {m : List Addr} {H : Hp} {h : Hc} {x y : C} {v u : V} {Q : VK}
theorem keyN_sq {K : PySem.W.Frag} {ns : List Int} (rl : Rl K m h H) (ry : RV K m H y u) (e : keyN y = some ns) : ∃ b, u = .ref b ∧ SqT K H b (ns.map V.int) := by
  cases y <;> try (cases e; done)
  obtain ⟨a, vs, rfl, h2, h3⟩ := ry
  obtain ⟨r1, _⟩ := intsC_rv h3 e
  subst r1
  exact ⟨a, rfl, h2⟩
theorem cellT {K : PySem.W.Frag} {n : Nat} {es : List C} (rl : Rl K m h H) (rx : RV K m H (.dref n) v) (e : h[n]? = some (.bl true :: es)) : ∃ a kvs, m[n]? = some a ∧ v = .ref a ∧ H a = some (.dT kvs) ∧ DTs K m H es kvs := by
  obtain ⟨a, q1, rfl, qd⟩ := rx
  obtain ⟨cs, e1, q⟩ := rl.getD q1 qd
  rw [e] at e1
  cases e1
  rcases q with ⟨es', kvs, e2, e3, e4⟩ | ⟨es', kvs, e2, e3, e4⟩
  · cases e2
    exact ⟨a, kvs, q1, rfl, e3, e4⟩
  · cases e2
theorem kV_int (ns : List Int) : (ns.map Sum.inl : List Key).map kV = ns.map V.int := by
  rw [List.map_map]
  rfl
theorem dget_ok (rl : Rl X.K m h H) (rx : RV X.K m H x v) (ry : RV X.K m H y u) (p : Post et X.K W m H (relV X.K) Q (dget x y h)) : ∃ a w, v = .ref a ∧ DGetS X.K H a u (some w) ∧ Q w H := by
  cases x <;> try (exact False.elim p)
  rename_i n
  replace p : Post et X.K W m H (relV X.K) Q (match h[n]? with
    | some (.bl true :: es) => match keyN y with
      | some ns => match dgetC ns es with
        | some c => .ok c h
        | none => .bad
      | none => .bad
    | _ => .bad) := p
  split at p
  · rename_i es e1
    split at p
    · rename_i ns e2
      split at p
      · rename_i c e3
        obtain ⟨a, kvs, q1, rfl, q3, q4⟩ := cellT rl rx e1
        obtain ⟨b, rfl, hb⟩ := keyN_sq rl ry e2
        obtain ⟨w, w1, w2⟩ := q4.get e3
        exact ⟨a, w, rfl, ⟨kvs, _, b, q3, rfl, by rw [kV_int]; exact hb, w1.symm⟩, p m H w Ext.refl rl w2⟩
      · exact False.elim p
    · exact False.elim p
  · exact False.elim p
theorem dput_ok {z : C} {t : V} {ks : List C} {vs : List V} {b : Addr} {Q : Hp → Prop} (rl : Rl X.K m h H) (rx : RV X.K m H x v) (g2 : H b = some (.tup vs)) (g4 : RVs X.K m H ks vs) (rz : RV X.K m H z t) (p : Post et X.K W m H (fun _ _ _ (_ : Unit) => True) (fun _ H' => Q H') (dput x ks z h)) : ∃ a H4, v = .ref a ∧ DPut H a (.ref b) t H4 ∧ Q H4 := by
  cases x <;> try (exact False.elim p)
  rename_i n
  replace p : Post et X.K W m H (fun _ _ _ (_ : Unit) => True) (fun _ H' => Q H') (match h[n]? with
    | some (.bl true :: es) => match intsC ks with
      | some ns => if es.length < lineN then .ok () (h.set n (.bl true :: dputC ns z es)) else .bad
      | none => .bad
    | _ => .bad) := p
  split at p
  · rename_i es e1
    split at p
    · rename_i ns e2
      split at p
      · rename_i hz
        obtain ⟨a, kvs, q1, rfl, q3, q4⟩ := cellT rl rx e1
        obtain ⟨r1, _⟩ := intsC_rv g4 e2
        subst r1
        have ex : Ext X.K m H m (upd H a (.dT (putK kvs (ns.map Sum.inl) t))) := Ext.writeD (List.mem_of_getElem? q1) q3
        refine ⟨a, _, rfl, DPut.t (k := ns.map Sum.inl) q3 (by rw [kV_int]; exact g2) (by rw [← q4.length]; exact line_lt hz), ?_⟩
        exact p m _ () ex (rl.writeO q1 ex (.inr (.inl ⟨_, _, rfl, upd_same, (q4.put rz).ext ex⟩))) trivial
      · exact False.elim p
    · exact False.elim p
  · exact False.elim p
end
/-! ### the keys sorted -/
theorem code_ltI {B : Int} : ∀ {ns ms : List Int}, ns.length = ms.length → TS.Bd B ns → TS.Bd B ms → (ltI ns ms = true ↔ TS.code B ns < TS.code B ms)
  | [], [], _, _, _ => by simp [ltI]
  | [], _ :: _, hl, _, _ => by simp at hl
  | _ :: _, [], hl, _, _ => by simp at hl
  | x :: xs, y :: ys, hl, h1, h2 => by
    have hl' : xs.length = ys.length := by simpa using hl
    unfold ltI
    by_cases e : x = y
    · subst e
      rw [if_pos rfl, TS.code_same hl']
      exact code_ltI hl' h1.tail h2.tail
    · rw [if_neg e]
      by_cases l : x < y
      · simp only [l, decide_true, true_iff]
        exact TS.code_lt hl' h1.tail h2.tail l
      · have := TS.code_lt (B := B) hl'.symm h2.tail h1.tail (show y < x by omega)
        simp only [l, decide_false, Bool.false_eq_true, false_iff]
        omega
theorem code_inj {B : Int} : ∀ {ns ms : List Int}, ns.length = ms.length → TS.Bd B ns → TS.Bd B ms → TS.code B ns = TS.code B ms → ns = ms
  | [], [], _, _, _, _ => rfl
  | [], _ :: _, hl, _, _, _ => by simp at hl
  | _ :: _, [], hl, _, _, _ => by simp at hl
  | x :: xs, y :: ys, hl, h1, h2, e => by
    have hl' : xs.length = ys.length := by simpa using hl
    by_cases q : x = y
    · subst q
      have : TS.code B xs = TS.code B ys := by
        have a : x * B ^ xs.length + TS.code B xs = x * B ^ ys.length + TS.code B ys := e
        rw [hl'] at a
        generalize x * B ^ ys.length = P at a
        omega
      rw [code_inj hl' h1.tail h2.tail this]
    · by_cases l : x < y
      · have := TS.code_lt (B := B) hl' h1.tail h2.tail l
        omega
      · have := TS.code_lt (B := B) hl'.symm h2.tail h1.tail (show y < x by omega)
        omega
theorem insK_perm (x : List Int) : ∀ l, (insK x l).Perm (x :: l)
  | [] => .refl _
  | y :: r => by
    unfold insK
    split
    · exact ((insK_perm x r).cons y).trans (List.Perm.swap x y r)
    · exact .refl _
theorem sortK_perm : ∀ l, (sortK l).Perm l
  | [] => .refl _
  | x :: r => (insK_perm x (sortK r)).trans ((sortK_perm r).cons x)
theorem insK_pw {B : Int} {d : Nat} {x : List Int} (hx : x.length = d ∧ TS.Bd B x) : ∀ {l : List (List Int)}, (∀ y ∈ l, y.length = d ∧ TS.Bd B y) → l.Pairwise (fun m n => TS.code B m ≤ TS.code B n) → (insK x l).Pairwise (fun m n => TS.code B m ≤ TS.code B n)
  | [], _, _ => by simp [insK]
  | y :: r, hl, hp => by
    obtain ⟨p1, p2⟩ := List.pairwise_cons.mp hp
    have hy := hl y List.mem_cons_self
    have iff := code_ltI (B := B) (hy.1.trans hx.1.symm) hy.2 hx.2
    unfold insK
    split
    · rename_i hlt
      refine List.pairwise_cons.mpr ⟨fun z hz => ?_, insK_pw hx (fun y h => hl y (List.mem_cons_of_mem _ h)) p2⟩
      rcases List.mem_cons.mp ((insK_perm x r).mem_iff.mp hz) with rfl | hz
      · exact Int.le_of_lt (iff.mp hlt)
      · exact p1 z hz
    · rename_i hlt
      have hxy : TS.code B x ≤ TS.code B y := by
        have : ¬ TS.code B y < TS.code B x := fun z => hlt (iff.mpr z)
        omega
      refine List.pairwise_cons.mpr ⟨fun z hz => ?_, hp⟩
      rcases List.mem_cons.mp hz with rfl | hz
      · exact hxy
      · exact Int.le_trans hxy (p1 z hz)
theorem sortK_pw {B : Int} {d : Nat} : ∀ {l : List (List Int)}, (∀ y ∈ l, y.length = d ∧ TS.Bd B y) → (sortK l).Pairwise (fun m n => TS.code B m ≤ TS.code B n)
  | [], _ => .nil
  | x :: r, h => insK_pw (h x List.mem_cons_self) (fun y hy => h y (List.mem_cons_of_mem _ ((sortK_perm r).mem_iff.mp hy))) (sortK_pw fun y hy => h y (List.mem_cons_of_mem _ hy))
theorem sortK_only {B : Int} {d : Nat} {l s : List (List Int)} (h : ∀ y ∈ l, y.length = d ∧ TS.Bd B y) (p : s.Perm l) (q : s.Pairwise (fun m n => TS.code B m ≤ TS.code B n)) : s = sortK l := by
  refine List.Perm.eq_of_pairwise (le := fun m n => TS.code B m ≤ TS.code B n) (fun a b ha hb h1 h2 => ?_) q (sortK_pw h) (p.trans (sortK_perm l).symm)
  obtain ⟨a1, a2⟩ := h a (p.mem_iff.mp ha)
  obtain ⟨b1, b2⟩ := h b ((sortK_perm l).mem_iff.mp hb)
  exact code_inj (a1.trans b1.symm) a2 b2 (by omega)
theorem keysOK_of {kss : List (List Int)} (h : keysOK kss = true) : ∃ d, 1 ≤ d ∧ ∀ ns ∈ kss, ns.length = d ∧ TS.Bd kB ns := by
  cases kss with
  | nil => exact ⟨1, Nat.le_refl _, fun _ h => nomatch h⟩
  | cons x r =>
    have h' := List.all_eq_true.mp (show ((x :: r).all fun ns => decide (ns.length = x.length) && decide (1 ≤ ns.length) && ns.all fun i => decide (0 ≤ i) && decide (i < kB)) = true from h)
    have each : ∀ ns ∈ x :: r, ns.length = x.length ∧ 1 ≤ ns.length ∧ TS.Bd kB ns := fun ns hn => by
      have := h' ns hn
      rw [Bool.and_eq_true, Bool.and_eq_true] at this
      obtain ⟨⟨a, b⟩, c⟩ := this
      refine ⟨of_decide_eq_true a, of_decide_eq_true b, fun i hi => ?_⟩
      have := List.all_eq_true.mp c i hi
      rw [Bool.and_eq_true] at this
      exact ⟨of_decide_eq_true this.1, of_decide_eq_true this.2⟩
    exact ⟨x.length, (each x List.mem_cons_self).2.1, fun ns hn => ⟨(each ns hn).1, (each ns hn).2.2⟩⟩
section
variable {X : Cx} {et : ETab} {W : Value → Option Addr → Hp → Prop} {m : List Addr} {H : Hp} {h : Hc} {x y : C} {v u : V} {Q : VK}
def rSortD : List V → Hp → VK → Prop := fun xs H Q => ∃ (d : Nat) (B : Int), 1 ≤ d ∧ ∃ (a : Addr) (kvs : List (List Key × V)) (nss : List (List Int)), xs = [V.ref a] ∧ H a = some (.dT kvs) ∧
    kvs.map (·.1) = nss.map (fun ns => ns.map Sum.inl) ∧ nss.length < 64 ∧ (∀ ns ∈ nss, ns.length = d ∧ TS.Bd B ns) ∧
    ∀ (mss : List (List Int)) (bs : List Addr) (p : Addr), mss.Perm nss → mss.Pairwise (fun m n => TS.code B m ≤ TS.code B n) → Paired (fun ms b => H b = some (.tup (ms.map V.int))) mss bs → H p = none → Q (.ref p) (upd H p (.lst (bs.map V.ref)))
theorem cr_sortD (hc : X.calm = true) : CallR X (.builtin "sorted") rSortD := by
  intro pins s σ H xs us Q I r h
  obtain ⟨d, B, hd, q⟩ := h
  exact call_sortedDT hc hd pins s σ H xs us Q I r q
theorem tups_rv {K : PySem.W.Frag} : ∀ {mss : List (List Int)} {bs : List Addr}, Paired (fun ms b => H b = some (.tup (ms.map V.int))) mss bs → RVs K m H (mss.map fun ns => .tup (ns.map C.int)) (bs.map V.ref) := by
  intro mss bs p
  induction p with
  | nil => rfl
  | @cons ms b mss bs h t ih =>
    refine ⟨.ref b, _, rfl, ⟨b, _, rfl, SqT.of h, ?_⟩, ih⟩
    clear ih t h
    induction ms with
    | nil => rfl
    | cons n ns ih => exact ⟨.int n, _, rfl, rfl, ih⟩
theorem dsort_ok (rl : Rl X.K m h H) (rx : RV X.K m H x v) (p : Post et X.K W m H (relV X.K) Q (dsort x h)) : rSortD [v] H Q := by
  cases x <;> try (exact False.elim p)
  rename_i n
  replace p : Post et X.K W m H (relV X.K) Q (match h[n]? with
    | some (.bl true :: es) => match es.mapM entK with
      | some kss => if kss.length < 64 ∧ keysOK kss = true then .ok (.ref h.length) (h ++ [(sortK kss).map fun ns => .tup (ns.map .int)]) else .bad
      | none => .bad
    | _ => .bad) := p
  split at p
  · rename_i es e1
    split at p
    · rename_i kss e2
      split at p
      · rename_i hz
        obtain ⟨a, kvs, q1, rfl, q3, q4⟩ := cellT rl rx e1
        obtain ⟨d, hd, hk⟩ := keysOK_of hz.2
        refine ⟨d, kB, hd, a, kvs, kss, rfl, q3, q4.keys e2, hz.1, hk, fun mss bs p' h1 h2 h3 hp => ?_⟩
        rw [sortK_only hk h1 h2] at h3
        exact p _ _ _ (Ext.newL hp) (rl.newL hp (tups_rv h3)) (lst_laid rl)
      · exact False.elim p
    · exact False.elim p
  · exact False.elim p
/-! ### in range(lo, hi) -/
theorem op_notIn_rng : OpR X (compareOp .NotIn) (fun x y H Q => ∃ i a lo hi, x = V.int i ∧ y = V.ref a ∧ H a = some (.rng lo hi) ∧ Q (.bl (!decide (lo ≤ i ∧ i < hi))) H) := by
  intro pins s σ H x y v u Q I rx ry h
  obtain ⟨i, a, lo, hi, rfl, rfl, ha, q⟩ := h
  obtain ⟨k, rfl⟩ := rx
  obtain rfl : u = Value.ref a := ry
  obtain ⟨t1, t2, t3, ho⟩ := I.hok a _ ha
  show wpAny _ _ (do return Value.bool (!(← contains (Value.ref a) (Value.int i k)))) _ _ s
  refine wpAny_bind (wpAny_contains_slot (T := "range") ⟨_, ho, rfl⟩ F.slot_range_contains (call_meets F.slot_range_contains ⟨_, ho, rfl⟩ F.entry_range_contains (F.args_range_contains_2 _ _) (q_contains a lo hi i t1 t2 t3 k)
    ⟨ho, wpAny_truthy_bool (wpAny_pure ⟨.bl _, H, I, rfl, ?_⟩)⟩))
  rw [place1]
  exact q
end
end Sh
set_option Elab.async false
set_option linter.all false
set_option autoImplicit false
set_option maxRecDepth 100000
set_option maxHeartbeats 4000000
/-! Sh, part F: built-ins; expressions, rule by rule. -/
namespace Sh
open PySem PySem.Spec PyProof.Rows L2

def biName : Bi → Str
  | .len => "len" | .abs => "abs" | .max2 => "max" | .min2 => "min" | .sum => "sum" | .gcd => "gcd" | .divmod => "divmod" | .repr => "repr" | .tuple => "tuple" | .list => "list" | .maxL => "max" | .minL => "min" | .int => "int" | .bool => "bool" | .all => "all" | .any => "any" | .sorted => "sorted"
def biVal : Bi → Value
  | .len => .builtin "len" | .abs => .builtin "abs" | .max2 => .builtin "max" | .min2 => .builtin "min" | .sum => .builtin "sum" | .gcd => .builtin "math.gcd" | .divmod => .builtin "divmod" | .repr => .builtin "repr"
  | .tuple => .type "tuple" | .list => .type "list" | .maxL => .builtin "max" | .minL => .builtin "min" | .int => .type "int" | .bool => .type "bool" | .all => .builtin "all" | .any => .builtin "any" | .sorted => .builtin "sorted"

theorem maxI_is : ∀ (r : List Int) (x m : Int), m ∈ x :: r → (∀ y, y ∈ x :: r → y ≤ m) → maxI x r = m
  | [], x, m, h, _ => by
    have : m = x := by simpa using h
    rw [this]; rfl
  | y :: r, x, m, h, hl => by
    have hx := hl x (by simp)
    have hy := hl y (by simp)
    refine maxI_is r (if x < y then y else x) m ?_ fun z hz => ?_
    · rcases List.mem_cons.mp h with e | h
      · subst e
        rw [if_neg (by omega)]
        exact List.mem_cons_self
      · rcases List.mem_cons.mp h with e | h
        · subst e
          split
          · exact List.mem_cons_self
          · have : m = x := by omega
            rw [this]
            exact List.mem_cons_self
        · exact List.mem_cons_of_mem _ h
    · rcases List.mem_cons.mp hz with e | hz
      · rw [e]
        split
        · exact hy
        · exact hx
      · exact hl z (by simp [hz])
theorem minI_is : ∀ (r : List Int) (x m : Int), m ∈ x :: r → (∀ y, y ∈ x :: r → m ≤ y) → minI x r = m
  | [], x, m, h, _ => by
    have : m = x := by simpa using h
    rw [this]; rfl
  | y :: r, x, m, h, hl => by
    have hx := hl x (by simp)
    have hy := hl y (by simp)
    refine minI_is r (if y < x then y else x) m ?_ fun z hz => ?_
    · rcases List.mem_cons.mp h with e | h
      · subst e
        rw [if_neg (by omega)]
        exact List.mem_cons_self
      · rcases List.mem_cons.mp h with e | h
        · subst e
          split
          · exact List.mem_cons_self
          · have : m = x := by omega
            rw [this]
            exact List.mem_cons_self
        · exact List.mem_cons_of_mem _ h
    · rcases List.mem_cons.mp hz with e | hz
      · rw [e]
        split
        · exact hy
        · exact hx
      · exact hl z (by simp [hz])
section
variable {X : Cx} {et : ETab} {W : Value → Option Addr → Hp → Prop}
theorem call_reprD (hg : X.A.guards = some []) (hu : X.A.units + 70 < cLine) : CallR X (.builtin "repr") (fun xs H Q => ∃ v d, xs = [v] ∧ Dp X.K H v d ∧ d.showable = true ∧ SeqAt.shaped d = true ∧ d.shown.length ≤ sizeLine ∧ Q (.str d.shown) H) := by
  intro pins s σ H xs us Q I r h
  obtain ⟨v, d, rfl, hd, hs, hc, hz, q⟩ := h
  obtain ⟨u, rfl, ru⟩ := vals1 r
  have hcl := SeqAt.canLay_of_shaped hc
  have hdp := SeqAt.depth_of_shaped hc
  have ref : ∀ a, v = .ref a → wpAny (model X.prog X.w) X.A (call (.builtin "repr") [u]) (EP X pins σ Q) X.xe s := fun a e => by
    subst e
    cases ru
    obtain ⟨as, rd⟩ := Dp.reads I d _ _ hd rfl
    refine repr_of_reads' rd hs (fun hx => ?_) hg (by omega) (fun _ _ e => e) (fun h' u tk k => ?_) hz
    · rw [PyData.hasDict_of_canLay d hcl] at hx
      cases hx
    · exact ⟨.str d.shown, H, I.kept (h' := h') (t' := tk) k, ⟨u, rfl⟩, q⟩
  cases hd with
  | non =>
    cases ru
    exact PySem.P.repr_of_none ⟨.str _, H, I.tok _, ⟨_, rfl⟩, q⟩
  | bl b =>
    cases ru
    exact PySem.P.repr_of_bool ⟨.str _, H, I.tok _, ⟨_, rfl⟩, q⟩
  | int i =>
    obtain ⟨t, rfl⟩ := ru
    exact PySem.P.repr_of_int (by simpa [PyData.showable] using hs) ⟨.str _, H, I.tok _, ⟨_, rfl⟩, q⟩
  | str x =>
    obtain ⟨t, rfl⟩ := ru
    exact PySem.P.repr_of_str ⟨.str _, H, I.tok _, ⟨_, rfl⟩, q⟩ hz
  | lst _ _ => exact ref _ rfl
  | tup _ _ => exact ref _ rfl
theorem ints_of {K : PySem.W.Frag} {m : List Addr} {H : Hp} : ∀ {cs : List C} {ns : List Int} {vs : List V}, intsC cs = some ns → RVs K m H cs vs → vs = ns.map V.int
  | [], ns, vs, e, q => by
    cases q
    have e' : some [] = some ns := e
    cases e'
    rfl
  | c :: cs, ns, vs, e, q => by
    obtain ⟨v, r, rfl, q1, q2⟩ := q
    cases c with
    | int i =>
      have e' : (intsC cs).map (i :: ·) = some ns := e
      cases hh : intsC cs with
      | none => rw [hh] at e'; cases e'
      | some ms =>
        rw [hh] at e'
        cases e'
        rw [ints_of hh q2]
        have q1' : v = .int i := q1
        rw [q1']
        rfl
    | non => cases e
    | bl _ => cases e
    | str _ => cases e
    | tup _ => cases e
    | ref _ => cases e
    | frz _ => cases e
    | rep _ => cases e
    | dref _ => cases e
theorem bools_of {K : PySem.W.Frag} {m : List Addr} {H : Hp} : ∀ {cs : List C} {ns : List Bool} {vs : List V}, boolsC cs = some ns → RVs K m H cs vs → vs = ns.map V.bl
  | [], ns, vs, e, q => by
    cases q
    have e' : some [] = some ns := e
    cases e'
    rfl
  | c :: cs, ns, vs, e, q => by
    obtain ⟨v, r, rfl, q1, q2⟩ := q
    cases c with
    | bl i =>
      have e' : (boolsC cs).map (i :: ·) = some ns := e
      cases hh : boolsC cs with
      | none => rw [hh] at e'; cases e'
      | some ms =>
        rw [hh] at e'
        cases e'
        rw [bools_of hh q2]
        have q1' : v = .bl i := q1
        rw [q1']
        rfl
    | non => cases e
    | int _ => cases e
    | str _ => cases e
    | tup _ => cases e
    | ref _ => cases e
    | frz _ => cases e
    | rep _ => cases e
    | dref _ => cases e
theorem rvs1 {K : PySem.W.Frag} {m : List Addr} {H : Hp} {c : C} {vs : List V} (q : RVs K m H [c] vs) : ∃ v, vs = [v] ∧ RV K m H c v := by
  obtain ⟨v, r, rfl, q1, q2⟩ := q
  cases q2
  exact ⟨v, rfl, q1⟩
theorem rvs2 {K : PySem.W.Frag} {m : List Addr} {H : Hp} {c d : C} {vs : List V} (q : RVs K m H [c, d] vs) : ∃ v u, vs = [v, u] ∧ RV K m H c v ∧ RV K m H d u := by
  obtain ⟨v, r, rfl, q1, q2⟩ := q
  obtain ⟨u, rfl, q3⟩ := rvs1 q2
  exact ⟨v, u, rfl, q1, q3⟩
theorem bi_ok (b : Bi) (hc : X.calm = true ∨ b = .repr) (hg : X.A.guards = some []) (hu : X.A.units + 70 < cLine) : ∃ r, CallR X (biVal b) r ∧ ∀ (m : List Addr) (H : Hp) (h : Hc) (xs : List C) (vs : List V) (Q : VK), Rl X.K m h H → RVs X.K m H xs vs → Post et X.K W m H (relV X.K) Q (bi b xs h) → r vs H Q := by
  have no : ∀ f : Value, CallR X f (fun _ _ _ => False) := fun _ _ _ _ _ _ _ _ _ _ q => q.elim
  cases b with
  | len =>
    refine ⟨_, call_len, fun m H h xs vs Q rl q p => ?_⟩
    match xs, q, p with
    | [], _, p => exact False.elim p
    | c :: d :: r, _, p => exact False.elim (by cases c <;> exact p)
    | [c], q, p =>
      obtain ⟨v, rfl, rv⟩ := rvs1 q
      have sq : ∀ ys, seqOf h c = some ys → Post et X.K W m H (relV X.K) Q (.ok (.int ys.length) h) → ∃ x n, [v] = [x] ∧ LenV X.K x H n ∧ Q (.int n) H := fun ys e p => by
        obtain ⟨a, ws, rfl, hs, q⟩ := seq_read rl rv e
        refine ⟨_, ys.length, rfl, ?_, p m H _ Ext.refl rl rfl⟩
        rcases hs with hs | hs
        · exact .inl ⟨ws, hs, q.length⟩
        · exact .inr ⟨ws, hs, q.length⟩
      have go : Post et X.K W m H (relV X.K) Q (match seqOf h c with | some ys => .ok (.int ys.length) h | none => .bad) → ∃ x n, [v] = [x] ∧ LenV X.K x H n ∧ Q (.int n) H := fun p => by
        cases e : seqOf h c with
        | none => rw [e] at p; exact False.elim p
        | some ys => rw [e] at p; exact sq ys e p
      cases c with
      | str z =>
        cases rv
        unfold bi at p
        simp only at p
        split at p
        · rename_i hz
          exact ⟨_, z.length, rfl, ⟨line_le hz, rfl⟩, p m H _ Ext.refl rl rfl⟩
        · exact False.elim p
      | non => exact go p
      | bl _ => exact go p
      | int _ => exact go p
      | tup _ => exact go p
      | ref _ => exact go p
      | frz _ => exact go p
      | rep _ => exact go p
      | dref _ => exact go p
  | abs =>
    refine ⟨_, call_abs, fun m H h xs vs Q rl q p => ?_⟩
    match xs, q, p with
    | [.int i], q, p =>
      obtain ⟨v, rfl, rv⟩ := rvs1 q
      cases rv
      exact ⟨i, rfl, p m H _ Ext.refl rl rfl⟩
    | [], _, p => exact False.elim p
    | [.non], _, p => exact False.elim p
    | [.bl _], _, p => exact False.elim p
    | [.str _], _, p => exact False.elim p
    | [.tup _], _, p => exact False.elim p
    | [.ref _], _, p => exact False.elim p
    | [.frz _], _, p => exact False.elim p
    | [.rep _], _, p => exact False.elim p
    | c :: _ :: _, _, p => exact False.elim (by cases c <;> exact p)
  | max2 =>
    refine ⟨_, call_max2 (hc.resolve_right (by intro z; cases z)), fun m H h xs vs Q rl q p => ?_⟩
    unfold bi at p
    simp only at p
    split at p
    · rename_i i j
      obtain ⟨v, u, rfl, r1, r2⟩ := rvs2 q
      cases r1
      cases r2
      exact ⟨i, j, rfl, p m H _ Ext.refl rl rfl⟩
    · exact False.elim p
  | min2 =>
    refine ⟨_, call_min2 (hc.resolve_right (by intro z; cases z)), fun m H h xs vs Q rl q p => ?_⟩
    unfold bi at p
    simp only at p
    split at p
    · rename_i i j
      obtain ⟨v, u, rfl, r1, r2⟩ := rvs2 q
      cases r1
      cases r2
      exact ⟨i, j, rfl, p m H _ Ext.refl rl rfl⟩
    · exact False.elim p
  | sum =>
    refine ⟨_, cr_sum (hc.resolve_right (by intro z; cases z)), fun m H h xs vs Q rl q p => ?_⟩
    unfold bi at p
    simp only at p
    split at p
    · rename_i n
      split at p
      · rename_i ns e1
        obtain ⟨v, rfl, r1⟩ := rvs1 q
        obtain ⟨a, q1, rfl, qL⟩ := r1
        cases hn : h[n]? with
        | none => rw [hn] at e1; cases e1
        | some cs =>
          rw [hn] at e1
          obtain ⟨ws, s1, s2⟩ := rl.get' q1 qL hn
          have e2 := ints_of (show intsC cs = some ns from e1) s2
          exact ⟨a, ns, rfl, by rw [← e2]; exact SqL.of s1, p m H _ Ext.refl rl rfl⟩
      · exact False.elim p
    · exact False.elim p
  | gcd =>
    refine ⟨_, cr_gcd, fun m H h xs vs Q rl q p => ?_⟩
    unfold bi at p
    simp only at p
    split at p
    · rename_i i j
      obtain ⟨v, u, rfl, r1, r2⟩ := rvs2 q
      cases r1
      cases r2
      exact ⟨i, j, rfl, p m H _ Ext.refl rl rfl⟩
    · exact False.elim p
  | divmod =>
    refine ⟨_, call_divmod, fun m H h xs vs Q rl q p => ?_⟩
    unfold bi at p
    simp only at p
    split at p
    · rename_i i j
      split at p
      · rename_i hz
        obtain ⟨v, u, rfl, r1, r2⟩ := rvs2 q
        cases r1
        cases r2
        refine ⟨i, j, rfl, ⟨hz.1, by omega⟩, fun p' hp => ?_⟩
        exact p m _ _ (Ext.new hp) (rl.new hp) (tup_laid (cs := [.int (i / j), .int (i % j)]) ⟨_, _, rfl, rfl, _, _, rfl, rfl, rfl⟩ hp)
      · exact False.elim p
    · exact False.elim p
  | repr =>
    refine ⟨_, call_reprD hg hu, fun m H h xs vs Q rl q p => ?_⟩
    unfold bi at p
    simp only at p
    split at p
    · rename_i c
      split at p
      · rename_i d e1
        split at p
        · rename_i hs
          rw [Bool.and_eq_true, Bool.and_eq_true] at hs
          obtain ⟨v, rfl, r1⟩ := rvs1 q
          have hcl := SeqAt.canLay_of_shaped hs.1.2
          exact ⟨v, d, rfl, toD_dp rl 60 c v d r1 e1, hs.1.1, hs.1.2, shown_short hcl hs.1.1 hs.2, p m H _ Ext.refl rl ⟨rfl, hcl⟩⟩
        · exact False.elim p
      · exact False.elim p
    · exact False.elim p
  | tuple =>
    refine ⟨_, call_tuple_of, fun m H h xs vs Q rl q p => ?_⟩
    unfold bi at p
    simp only at p
    split at p
    · rename_i cs
      obtain ⟨v, rfl, r1⟩ := rvs1 q
      have r1' := r1
      obtain ⟨a, ws, rfl, e2, e3⟩ := r1
      exact ⟨a, ws, rfl, .inr ⟨e2, p m H _ Ext.refl rl r1'⟩⟩
    · rename_i n
      split at p
      · rename_i cs e1
        obtain ⟨v, rfl, r1⟩ := rvs1 q
        obtain ⟨a, q1, rfl, qL⟩ := r1
        obtain ⟨ws, s1, s2⟩ := rl.get' q1 qL e1
        exact ⟨a, ws, rfl, .inl ⟨SqL.of s1, fun l hl => p m _ _ (Ext.new hl) (rl.new hl) (tup_laid s2 hl)⟩⟩
      · exact False.elim p
    · exact False.elim p
  | list =>
    refine ⟨_, call_list_of, fun m H h xs vs Q rl q p => ?_⟩
    unfold bi at p
    simp only at p
    split at p
    · rename_i c
      split at p
      · rename_i cs e1
        obtain ⟨v, rfl, r1⟩ := rvs1 q
        obtain ⟨a, ws, rfl, hs, s2⟩ := seq_read rl r1 e1
        exact ⟨a, ws, rfl, hs, fun l hl => p _ _ _ (Ext.newL hl) (rl.newL hl s2) (lst_laid rl)⟩
      · exact False.elim p
    · exact False.elim p
  | int =>
    refine ⟨_, call_int1, fun m H h xs vs Q rl q p => ?_⟩
    unfold bi at p
    simp only at p
    split at p
    · rename_i i
      obtain ⟨v, rfl, r1⟩ := rvs1 q
      cases r1
      exact .inl ⟨i, rfl, p m H _ Ext.refl rl rfl⟩
    · exact False.elim p
  | maxL =>
    refine ⟨_, cr_max (hc.resolve_right (by intro z; cases z)), fun m H h xs vs Q rl q p => ?_⟩
    unfold bi at p
    simp only at p
    split at p
    · rename_i n
      split at p
      · rename_i x r e1
        obtain ⟨v, rfl, r1⟩ := rvs1 q
        obtain ⟨a, q1, rfl, qL⟩ := r1
        cases hn : h[n]? with
        | none => rw [hn] at e1; cases e1
        | some cs =>
          rw [hn] at e1
          obtain ⟨ws, s1, s2⟩ := rl.get' q1 qL hn
          have e2 := ints_of (show intsC cs = some (x :: r) from e1) s2
          refine ⟨a, x :: r, rfl, by rw [← e2]; exact SqL.of s1, Nat.succ_pos _, fun m' h1 h2 => ?_⟩
          rw [← maxI_is r x m' h1 h2]
          exact p m H _ Ext.refl rl rfl
      · exact False.elim p
    · exact False.elim p
  | minL =>
    refine ⟨_, cr_min (hc.resolve_right (by intro z; cases z)), fun m H h xs vs Q rl q p => ?_⟩
    unfold bi at p
    simp only at p
    split at p
    · rename_i n
      split at p
      · rename_i x r e1
        obtain ⟨v, rfl, r1⟩ := rvs1 q
        obtain ⟨a, q1, rfl, qL⟩ := r1
        cases hn : h[n]? with
        | none => rw [hn] at e1; cases e1
        | some cs =>
          rw [hn] at e1
          obtain ⟨ws, s1, s2⟩ := rl.get' q1 qL hn
          have e2 := ints_of (show intsC cs = some (x :: r) from e1) s2
          refine ⟨a, x :: r, rfl, by rw [← e2]; exact SqL.of s1, Nat.succ_pos _, fun m' h1 h2 => ?_⟩
          rw [← minI_is r x m' h1 h2]
          exact p m H _ Ext.refl rl rfl
      · exact False.elim p
    · exact False.elim p
  | bool => exact ⟨_, no _, fun m H h xs vs Q rl q p => p⟩
  | all =>
    refine ⟨_, cr_all (hc.resolve_right (by intro z; cases z)), fun m H h xs vs Q rl q p => ?_⟩
    unfold bi at p
    simp only at p
    split at p
    · rename_i n
      split at p
      · rename_i bs e1
        obtain ⟨v, rfl, r1⟩ := rvs1 q
        obtain ⟨a, q1, rfl, qL⟩ := r1
        cases hn : h[n]? with
        | none => rw [hn] at e1; cases e1
        | some cs =>
          rw [hn] at e1
          obtain ⟨ws, s1, s2⟩ := rl.get' q1 qL hn
          have e2 := bools_of (show boolsC cs = some bs from e1) s2
          exact ⟨a, bs, rfl, by rw [← e2]; exact SqL.of s1, p m H _ Ext.refl rl rfl⟩
      · exact False.elim p
    · exact False.elim p
  | any =>
    refine ⟨_, cr_any (hc.resolve_right (by intro z; cases z)), fun m H h xs vs Q rl q p => ?_⟩
    unfold bi at p
    simp only at p
    split at p
    · rename_i n
      split at p
      · rename_i bs e1
        obtain ⟨v, rfl, r1⟩ := rvs1 q
        obtain ⟨a, q1, rfl, qL⟩ := r1
        cases hn : h[n]? with
        | none => rw [hn] at e1; cases e1
        | some cs =>
          rw [hn] at e1
          obtain ⟨ws, s1, s2⟩ := rl.get' q1 qL hn
          have e2 := bools_of (show boolsC cs = some bs from e1) s2
          exact ⟨a, bs, rfl, by rw [← e2]; exact SqL.of s1, p m H _ Ext.refl rl rfl⟩
      · exact False.elim p
    · exact False.elim p
  | sorted =>
    refine ⟨_, cr_sortD (hc.resolve_right (by intro z; cases z)), fun m H h xs vs Q rl q p => ?_⟩
    unfold bi at p
    simp only at p
    split at p
    · rename_i c
      obtain ⟨v, rfl, r1⟩ := rvs1 q
      exact dsort_ok rl r1 p
    · exact False.elim p
end

/-! ### expressions -/
section
variable {X : Cx} {et : ETab} {W : WX} {a b c e : Expr} {es : List Expr} {pos : Pos} {fa fb fc : Sl → Hc → R C} {ft : Sl → Hc → R Bool} {fs : Sl → Hc → R (List C)}
theorem sE_const {k : C} {v : V} (h : PE X e (tC v)) (r : ∀ m H, RV X.K m H k v) : PE X e (tE et X.K W fun _ h => .ok k h) :=
  h.imp fun σ H Q ⟨m, sl, h, rl, rs, p⟩ => p m H v Ext.refl rl (r m H)
theorem sE_var {i : Nat} (h : PE X e (tVar i)) : PE X e (tE et X.K W fun sl h => match sl[i]? with | some (some c) => .ok c h | _ => .bad) :=
  h.imp fun σ H Q ⟨m, sl, h, rl, rs, p⟩ => by
    dsimp only at p
    cases e : sl[i]? with
    | none => rw [e] at p; exact False.elim p
    | some o =>
      cases o with
      | none => rw [e] at p; exact False.elim p
      | some c =>
        rw [e] at p
        obtain ⟨v, e1, e2⟩ := rs.at_ i c e
        exact ⟨v, e1, p m H v Ext.refl rl e2⟩
theorem bin_imp {r : R2} {opf : C → C → Hc → R C} (ok : ∀ (σ : L2.St) (m : List Addr) (H : Hp) (h : Hc) (x y : C) (v u : V) (Q : VK), Rl X.K m h H → RV X.K m H x v → RV X.K m H y u → Post et X.K (fun c d H' => W c d σ H') m H (relV X.K) Q (opf x y h) → r v u H Q)
    (σ : L2.St) (H : Hp) (Q : VK) (h : tE et X.K W (fun sl h => (fa sl h).bind fun x h1 => (fb sl h1).bind fun y h2 => opf x y h2) σ H Q) : tOp r (tE et X.K W fa) (tE et X.K W fb) σ H Q := by
  obtain ⟨m, sl, h, rl, rs, p⟩ := h
  refine ⟨m, sl, h, rl, rs, p.bind fun x h1 e1 m1 H1 v x1 rl1 rv1 p1 => ?_⟩
  refine ⟨m1, sl, h1, rl1, rs.ext x1, p1.bind fun y h2 e2 m2 H2 u x2 rl2 rv2 p2 => ?_⟩
  exact ok σ m2 H2 h2 x y v u Q rl2 (RV.ext x2 rv1) rv2 p2
theorem sE_bin (o : Op) (ha : PE X a (tE et X.K W fa)) (hb : PE X b (tE et X.K W fb)) : PE X (.BinOp a (opr o) b pos) (tE et X.K W fun sl h => (fa sl h).bind fun x h1 => (fb sl h1).bind fun y h2 => binop o x y h2) := by
  have key : ∀ (σ : L2.St), ∃ r : R2, OpR X (binaryOp (opr o)) r ∧ ∀ (m : List Addr) (H : Hp) (h : Hc) (x y : C) (v u : V) (Q : VK), Rl X.K m h H → RV X.K m H x v → RV X.K m H y u → Post et X.K (fun c d H' => W c d σ H') m H (relV X.K) Q (binop o x y h) → r v u H Q := fun σ => binop_ok o
  refine ⟨fun pins s σ H Q I h => ?_⟩
  obtain ⟨r, ho, ok⟩ := key σ
  refine (pe_op ho ha hb).run pins s σ H Q I ?_
  obtain ⟨m, sl, h, rl, rs, p⟩ := h
  refine ⟨m, sl, h, rl, rs, p.bind fun x h1 e1 m1 H1 v x1 rl1 rv1 p1 => ?_⟩
  refine ⟨m1, sl, h1, rl1, rs.ext x1, p1.bind fun y h2 e2 m2 H2 u x2 rl2 rv2 p2 => ?_⟩
  exact ok m2 H2 h2 x y v u Q rl2 (RV.ext x2 rv1) rv2 p2
theorem sE_cmp (o : Cm) (hu : X.A.units + 65 < cLine) (hm : behindInMarks (cmr o) b = false) (ha : PE X a (tE et X.K W fa)) (hb : PE X b (tE et X.K W fb)) : PE X (.Compare a [cmr o] [b] pos) (tE et X.K W fun sl h => (fa sl h).bind fun x h1 => (fb sl h1).bind fun y h2 => cmpop o x y h2) := by
  refine ⟨fun pins s σ H Q I h => ?_⟩
  obtain ⟨r, ho, ok⟩ := cmpop_ok (X := X) (et := et) (W := fun c d H' => W c d σ H') o hu
  refine (pe_cmpR ho ha hb hm).run pins s σ H Q I ?_
  obtain ⟨m, sl, h, rl, rs, p⟩ := h
  refine ⟨m, sl, h, rl, rs, p.bind fun x h1 e1 m1 H1 v x1 rl1 rv1 p1 => ?_⟩
  refine ⟨m1, sl, h1, rl1, rs.ext x1, p1.bind fun y h2 e2 m2 H2 u x2 rl2 rv2 p2 => ?_⟩
  exact ok m2 H2 h2 x y v u Q rl2 (RV.ext x2 rv1) rv2 p2
theorem sT_cmp (o : Cm) (hu : X.A.units + 65 < cLine) (hm : behindInMarks (cmr o) b = false) (ha : PE X a (tE et X.K W fa)) (hb : PE X b (tE et X.K W fb)) : PT X (.Compare a [cmr o] [b] pos) (tT et X.K W fun sl h => (fa sl h).bind fun x h1 => (fb sl h1).bind fun y h2 => (cmpop o x y h2).bind fun z h3 => match z with
    | .bl k => .ok k h3
    | _ => .bad) := by
  refine ⟨fun pins s σ H Q I h => ?_⟩
  obtain ⟨r, ho, ok⟩ := cmpop_ok (X := X) (et := et) (W := fun c d H' => W c d σ H') o hu
  refine (pt_cmpR ho ha hb hm).run pins s σ H Q I ?_
  obtain ⟨m, sl, h, rl, rs, p⟩ := h
  refine ⟨m, sl, h, rl, rs, p.bind fun x h1 e1 m1 H1 v x1 rl1 rv1 p1 => ?_⟩
  refine ⟨m1, sl, h1, rl1, rs.ext x1, p1.bind fun y h2 e2 m2 H2 u x2 rl2 rv2 p2 => ?_⟩
  refine ok m2 H2 h2 x y v u _ rl2 (RV.ext x2 rv1) rv2 (p2.bind fun z h3 e3 m3 H3 t x3 rl3 rv3 p3 => ?_)
  cases z with
  | bl k => cases rv3; exact ⟨k, rfl, p3 m3 H3 k Ext.refl rl3 rfl⟩
  | non => exact False.elim p3
  | int _ => exact False.elim p3
  | str _ => exact False.elim p3
  | tup _ => exact False.elim p3
  | ref _ => exact False.elim p3
  | frz _ => exact False.elim p3
  | rep _ => exact False.elim p3
  | dref _ => exact False.elim p3
theorem sE_chain (o o' : Cm) (hu : X.A.units + 65 < cLine) (hm : lastMarks [cmr o, cmr o'] [b, c] = false) (ha : PE X a (tE et X.K W fa)) (hb : PE X b (tE et X.K W fb)) (hc : PE X c (tE et X.K W fc)) : PE X (.Compare a [cmr o, cmr o'] [b, c] pos) (tE et X.K W fun sl h => (fa sl h).bind fun x h1 => (fb sl h1).bind fun y h2 => (cmpop o x y h2).bind fun z h3 => match z with
    | .bl true => (fc sl h3).bind fun u h4 => cmpop o' y u h4
    | .bl false => .ok (.bl false) h3
    | _ => .bad) := by
  refine ⟨fun pins s σ H Q I h => ?_⟩
  obtain ⟨r, ho, ok⟩ := cmpop_ok (X := X) (et := et) (W := fun c d H' => W c d σ H') o hu
  obtain ⟨r', ho', ok'⟩ := cmpop_ok (X := X) (et := et) (W := fun c d H' => W c d σ H') o' hu
  refine (pe_chain ho ho' ha hb hc hm).run pins s σ H Q I ?_
  obtain ⟨m, sl, h, rl, rs, p⟩ := h
  refine ⟨m, sl, h, rl, rs, p.bind fun x h1 e1 m1 H1 v x1 rl1 rv1 p1 => ?_⟩
  refine ⟨m1, sl, h1, rl1, rs.ext x1, p1.bind fun y h2 e2 m2 H2 u x2 rl2 rv2 p2 => ?_⟩
  refine ok m2 H2 h2 x y v u _ rl2 (RV.ext x2 rv1) rv2 (p2.bind fun z h3 e3 m3 H3 t x3 rl3 rv3 p3 => ?_)
  cases z with
  | bl k =>
    cases rv3
    cases k with
    | true =>
      refine ⟨true, rfl, iteT ?_⟩
      refine ⟨m3, sl, h3, rl3, ((rs.ext x1).ext x2).ext x3, Post.bind p3 fun u' h4 e4 m4 H4 t' x4 rl4 rv4 p4 => ?_⟩
      exact ok' m4 H4 h4 y u' u t' Q rl4 (RV.ext x4 (RV.ext x3 rv2)) rv4 p4
    | false => exact ⟨false, rfl, iteF (p3 m3 H3 _ Ext.refl rl3 rfl)⟩
  | non => exact False.elim p3
  | int _ => exact False.elim p3
  | str _ => exact False.elim p3
  | tup _ => exact False.elim p3
  | ref _ => exact False.elim p3
  | frz _ => exact False.elim p3
  | rep _ => exact False.elim p3
  | dref _ => exact False.elim p3
theorem sT_chain (o o' : Cm) (hu : X.A.units + 65 < cLine) (hm : lastMarks [cmr o, cmr o'] [b, c] = false) (ha : PE X a (tE et X.K W fa)) (hb : PE X b (tE et X.K W fb)) (hc : PE X c (tE et X.K W fc)) : PT X (.Compare a [cmr o, cmr o'] [b, c] pos) (tT et X.K W fun sl h => (fa sl h).bind fun x h1 => (fb sl h1).bind fun y h2 => (cmpop o x y h2).bind fun z h3 => match z with
    | .bl true => (fc sl h3).bind fun u h4 => (cmpop o' y u h4).bind fun z h5 => match z with
      | .bl k => .ok k h5
      | _ => .bad
    | .bl false => .ok false h3
    | _ => .bad) := by
  refine ⟨fun pins s σ H Q I h => ?_⟩
  obtain ⟨r, ho, ok⟩ := cmpop_ok (X := X) (et := et) (W := fun c d H' => W c d σ H') o hu
  obtain ⟨r', ho', ok'⟩ := cmpop_ok (X := X) (et := et) (W := fun c d H' => W c d σ H') o' hu
  refine (pt_chain ho ho' ha hb hc hm).run pins s σ H Q I ?_
  obtain ⟨m, sl, h, rl, rs, p⟩ := h
  refine ⟨m, sl, h, rl, rs, p.bind fun x h1 e1 m1 H1 v x1 rl1 rv1 p1 => ?_⟩
  refine ⟨m1, sl, h1, rl1, rs.ext x1, p1.bind fun y h2 e2 m2 H2 u x2 rl2 rv2 p2 => ?_⟩
  refine ok m2 H2 h2 x y v u _ rl2 (RV.ext x2 rv1) rv2 (p2.bind fun z h3 e3 m3 H3 t x3 rl3 rv3 p3 => ?_)
  cases z with
  | bl k =>
    cases rv3
    cases k with
    | true =>
      refine ⟨true, rfl, iteT ?_⟩
      refine ⟨m3, sl, h3, rl3, ((rs.ext x1).ext x2).ext x3, Post.bind p3 fun u' h4 e4 m4 H4 t' x4 rl4 rv4 p4 => ?_⟩
      refine ok' m4 H4 h4 y u' u t' _ rl4 (RV.ext x4 (RV.ext x3 rv2)) rv4 (Post.bind p4 fun z' h5 e5 m5 H5 t5 x5 rl5 rv5 p5 => ?_)
      cases z' with
      | bl k => cases rv5; exact ⟨k, rfl, p5 m5 H5 k Ext.refl rl5 rfl⟩
      | non => exact False.elim p5
      | int _ => exact False.elim p5
      | str _ => exact False.elim p5
      | tup _ => exact False.elim p5
      | ref _ => exact False.elim p5
      | frz _ => exact False.elim p5
      | rep _ => exact False.elim p5
      | dref _ => exact False.elim p5
    | false => exact ⟨false, rfl, iteF ⟨false, rfl, p3 m3 H3 _ Ext.refl rl3 rfl⟩⟩
  | non => exact False.elim p3
  | int _ => exact False.elim p3
  | str _ => exact False.elim p3
  | tup _ => exact False.elim p3
  | ref _ => exact False.elim p3
  | frz _ => exact False.elim p3
  | rep _ => exact False.elim p3
  | dref _ => exact False.elim p3
theorem bl_of {K : PySem.W.Frag} {m : List Addr} {H : Hp} {x : C} {v : V} {g : Bool → R C} {Q : VK} {W' : Value → Option Addr → Hp → Prop} (r : RV K m H x v) (p : Post et K W' m H (relV K) Q (match (generalizing := false) x with | .bl b => g b | _ => .bad)) : ∃ b, x = .bl b ∧ v = .bl b ∧ Post et K W' m H (relV K) Q (g b) := by
  cases x with
  | bl b => cases r; exact ⟨b, rfl, rfl, p⟩
  | non => exact False.elim p
  | int _ => exact False.elim p
  | str _ => exact False.elim p
  | tup _ => exact False.elim p
  | ref _ => exact False.elim p
  | frz _ => exact False.elim p
  | rep _ => exact False.elim p
  | dref _ => exact False.elim p
theorem sE_neg (ha : PE X a (tE et X.K W fa)) : PE X (.UnaryOp .USub a pos) (tE et X.K W fun sl h => (fa sl h).bind fun x h1 => match x with
    | .int i => .ok (.int (-i)) h1
    | _ => .bad) :=
  (pe_un un_neg ha).imp fun σ H Q ⟨m, sl, h, rl, rs, p⟩ => ⟨m, sl, h, rl, rs, p.bind fun x h1 e1 m1 H1 v x1 rl1 rv1 p1 => by
    cases x with
    | int i => cases rv1; exact ⟨i, rfl, p1 m1 H1 _ Ext.refl rl1 rfl⟩
    | non => exact False.elim p1
    | bl _ => exact False.elim p1
    | str _ => exact False.elim p1
    | tup _ => exact False.elim p1
    | ref _ => exact False.elim p1
    | frz _ => exact False.elim p1
    | rep _ => exact False.elim p1
    | dref _ => exact False.elim p1⟩
theorem sE_notv (ha : PE X a (tE et X.K W fa)) : PE X (.UnaryOp .Not a pos) (tE et X.K W fun sl h => (fa sl h).bind fun x h1 => match x with
    | .bl b => .ok (.bl (!b)) h1
    | _ => .bad) :=
  (pe_not ha).imp fun σ H Q ⟨m, sl, h, rl, rs, p⟩ => ⟨m, sl, h, rl, rs, p.bind fun x h1 e1 m1 H1 v x1 rl1 rv1 p1 => by
    cases x with
    | bl i => cases rv1; exact ⟨i, rfl, p1 m1 H1 _ Ext.refl rl1 rfl⟩
    | non => exact False.elim p1
    | int _ => exact False.elim p1
    | str _ => exact False.elim p1
    | tup _ => exact False.elim p1
    | ref _ => exact False.elim p1
    | frz _ => exact False.elim p1
    | rep _ => exact False.elim p1
    | dref _ => exact False.elim p1⟩
theorem sE_and {rest : List Expr} (ha : PE X a (tE et X.K W fa)) (hb : PE X (.BoolOp .And (b :: rest) pos) (tE et X.K W fb)) : PE X (.BoolOp .And (a :: b :: rest) pos) (tE et X.K W fun sl h => (fa sl h).bind fun x h1 => match x with
    | .bl true => fb sl h1
    | .bl false => .ok (.bl false) h1
    | _ => .bad) :=
  (pe_and ha hb).imp fun σ H Q ⟨m, sl, h, rl, rs, p⟩ => ⟨m, sl, h, rl, rs, p.bind fun x h1 e1 m1 H1 v x1 rl1 rv1 p1 => by
    cases x with
    | bl k =>
      cases rv1
      cases k with
      | true => exact ⟨true, rfl, iteT ⟨m1, sl, h1, rl1, rs.ext x1, p1⟩⟩
      | false => exact ⟨false, rfl, iteF (p1 m1 H1 _ Ext.refl rl1 rfl)⟩
    | non => exact False.elim p1
    | int _ => exact False.elim p1
    | str _ => exact False.elim p1
    | tup _ => exact False.elim p1
    | ref _ => exact False.elim p1
    | frz _ => exact False.elim p1
    | rep _ => exact False.elim p1
    | dref _ => exact False.elim p1⟩
theorem sE_or {rest : List Expr} (ha : PE X a (tE et X.K W fa)) (hb : PE X (.BoolOp .Or (b :: rest) pos) (tE et X.K W fb)) : PE X (.BoolOp .Or (a :: b :: rest) pos) (tE et X.K W fun sl h => (fa sl h).bind fun x h1 => match x with
    | .bl false => fb sl h1
    | .bl true => .ok (.bl true) h1
    | _ => .bad) :=
  (pe_or ha hb).imp fun σ H Q ⟨m, sl, h, rl, rs, p⟩ => ⟨m, sl, h, rl, rs, p.bind fun x h1 e1 m1 H1 v x1 rl1 rv1 p1 => by
    cases x with
    | bl k =>
      cases rv1
      cases k with
      | false => exact ⟨false, rfl, iteF ⟨m1, sl, h1, rl1, rs.ext x1, p1⟩⟩
      | true => exact ⟨true, rfl, iteT (p1 m1 H1 _ Ext.refl rl1 rfl)⟩
    | non => exact False.elim p1
    | int _ => exact False.elim p1
    | str _ => exact False.elim p1
    | tup _ => exact False.elim p1
    | ref _ => exact False.elim p1
    | frz _ => exact False.elim p1
    | rep _ => exact False.elim p1
    | dref _ => exact False.elim p1⟩
theorem sE_ite (hc : PT X c (tT et X.K W ft)) (ha : PE X a (tE et X.K W fa)) (hb : PE X b (tE et X.K W fb)) : PE X (.IfExp c a b pos) (tE et X.K W fun sl h => (ft sl h).bind fun k h1 => if k then fa sl h1 else fb sl h1) :=
  (pe_ifExp hc ha hb).imp fun σ H Q ⟨m, sl, h, rl, rs, p⟩ => ⟨m, sl, h, rl, rs, p.bind fun k h1 e1 m1 H1 v x1 rl1 rv1 p1 => by
    cases rv1
    cases k with
    | true => exact iteT ⟨m1, sl, h1, rl1, rs.ext x1, p1⟩
    | false => exact iteF ⟨m1, sl, h1, rl1, rs.ext x1, p1⟩⟩
theorem sE_tup {x1 : Nat} (h : PA X es (tA et X.K W fs)) (hn : es.length ≤ 1000) : PE X (.Tuple es x1 pos) (tE et X.K W fun sl h => (fs sl h).bind fun xs h1 => if xs.length ≤ lineN then .ok (.tup xs) h1 else .bad) :=
  (pe_tup h).imp fun σ H Q ⟨m, sl, h, rl, rs, p⟩ => ⟨m, sl, h, rl, rs, p.bind fun xs h1 e1 m1 H1 vs x1 rl1 rv1 p1 => by
    have rv1 : RVs X.K m1 H1 xs vs := rv1
    split at p1
    · rename_i hz
      exact ⟨by rw [← rv1.length]; exact line_le hz, fun p' hp => p1 m1 _ _ (Ext.new hp) (rl1.new hp) (tup_laid rv1 hp)⟩
    · exact False.elim p1⟩
theorem sE_dnew : PE X (.Dict [] [] pos) (tE et X.K W fun _ h => .ok (.dref h.length) (h ++ [[.bl true]])) :=
  pe_dnewT.imp fun σ H Q ⟨m, sl, h, rl, rs, p⟩ => fun p' hp => p _ _ _ (Ext.newL hp) (rl.newD hp) (dct_laid rl)
theorem noSl_of {i : Expr} (h : PlainIx i) : NoSl i := h
theorem sE_dget (hu : X.A.units + 70 < cLine) (hs : PlainIx b) (ha : PE X a (tE et X.K W fa)) (hb : PE X b (tE et X.K W fb)) : PE X (.Subscript a b pos) (tE et X.K W fun sl h => (fa sl h).bind fun x h1 => (fb sl h1).bind fun y h2 => dget x y h2) :=
  (pe_dgetS (by omega) ha hb (noSl_of hs)).imp fun σ H Q ⟨m, sl, h, rl, rs, p⟩ => ⟨m, sl, h, rl, rs, p.bind fun x h1 e1 m1 H1 v x1 rl1 rv1 p1 => ⟨m1, sl, h1, rl1, rs.ext x1, p1.bind fun y h2 e2 m2 H2 u x2 rl2 rv2 p2 => dget_ok rl2 (RV.ext x2 rv1) rv2 p2⟩⟩
theorem sE_lst (h : PA X es (tA et X.K W fs)) : PE X (.List es pos) (tE et X.K W fun sl h => (fs sl h).bind fun xs h1 => if xs.length ≤ lineN then .ok (.ref h1.length) (h1 ++ [xs]) else .bad) :=
  (pe_lst h).imp fun σ H Q ⟨m, sl, h, rl, rs, p⟩ => ⟨m, sl, h, rl, rs, p.bind fun xs h1 e1 m1 H1 vs x1 rl1 rv1 p1 => by
    have rv1 : RVs X.K m1 H1 xs vs := rv1
    split at p1
    · rename_i hz
      exact ⟨by rw [← rv1.length]; exact line_le hz, fun p' hp => p1 _ _ _ (Ext.newL hp) (rl1.newL hp rv1) (lst_laid rl1)⟩
    · exact False.elim p1⟩
theorem sE_idx (hs : PlainIx b) (ha : PE X a (tE et X.K W fa)) (hb : PE X b (tE et X.K W fb)) : PE X (.Subscript a b pos) (tE et X.K W fun sl h => (fa sl h).bind fun x h1 => (fb sl h1).bind fun y h2 => item x y h2) := by
  refine ⟨fun pins s σ H Q I h => ?_⟩
  obtain ⟨r, ho, ok⟩ := item_ok (X := X) (et := et) (W := fun c d H' => W c d σ H')
  refine (pe_ix ho ha hb hs).run pins s σ H Q I ?_
  obtain ⟨m, sl, h, rl, rs, p⟩ := h
  refine ⟨m, sl, h, rl, rs, p.bind fun x h1 e1 m1 H1 v x1 rl1 rv1 p1 => ?_⟩
  refine ⟨m1, sl, h1, rl1, rs.ext x1, p1.bind fun y h2 e2 m2 H2 u x2 rl2 rv2 p2 => ?_⟩
  exact ok m2 H2 h2 x y v u Q rl2 (RV.ext x2 rv1) rv2 p2
theorem sO_none : PO X none (tO et X.K W fun _ h => .ok none h) := ⟨fun pins s σ H Q I ⟨m, sl, h, rl, rs, p⟩ => po_none.run pins s σ H Q I (p m H _ Ext.refl rl rfl)⟩
theorem sO_some (ha : PE X a (tE et X.K W fa)) : PO X (some a) (tO et X.K W fun sl h => (fa sl h).bind fun x h1 => match x with
    | .int i => .ok (some i) h1
    | _ => .bad) := by
  refine ⟨fun pins s σ H Q I ⟨m, sl, h, rl, rs, p⟩ => (po_some ha).run pins s σ H Q I ⟨m, sl, h, rl, rs, p.bind fun x h1 e1 m1 H1 v x1 rl1 rv1 p1 => ?_⟩⟩
  cases x with
  | int i => cases rv1; exact ⟨i, rfl, p1 m1 H1 _ Ext.refl rl1 rfl⟩
  | non => exact False.elim p1
  | bl _ => exact False.elim p1
  | str _ => exact False.elim p1
  | tup _ => exact False.elim p1
  | ref _ => exact False.elim p1
  | frz _ => exact False.elim p1
  | rep _ => exact False.elim p1
  | dref _ => exact False.elim p1
theorem sE_slc {lo hi : Option Expr} {p2 : Pos} {fl fu : Sl → Hc → R (Option Int)} (ha : PE X a (tE et X.K W fa)) (hl : PO X lo (tO et X.K W fl)) (hh : PO X hi (tO et X.K W fu)) :
    PE X (.Subscript a (.Slice lo hi none p2) pos) (tE et X.K W fun sl h => (fa sl h).bind fun x h1 => (fl sl h1).bind fun l h2 => (fu sl h2).bind fun u h3 => slice x l u h3) := by
  refine ⟨fun pins s σ H Q I h => ?_⟩
  obtain ⟨r, ho, ok⟩ := slice_ok (X := X) (et := et) (W := fun c d H' => W c d σ H')
  refine (pe_slice ho ha hl hh).run pins s σ H Q I ?_
  obtain ⟨m, sl, h, rl, rs, p⟩ := h
  refine ⟨m, sl, h, rl, rs, p.bind fun x h1 e1 m1 H1 v x1 rl1 rv1 p1 => ?_⟩
  refine ⟨m1, sl, h1, rl1, rs.ext x1, p1.bind fun l h2 e2 m2 H2 u x2 rl2 rv2 p2 => ?_⟩
  refine ⟨m2, sl, h2, rl2, (rs.ext x1).ext x2, p2.bind fun l' h3 e3 m3 H3 u' x3 rl3 rv3 p3 => ?_⟩
  cases rv2
  cases rv3
  exact ok m3 H3 h3 x l l' v Q rl3 (RV.ext x3 (RV.ext x2 rv1)) p3
theorem sA_nil : PA X [] (tA et X.K W fun _ h => .ok [] h) := pa_nil.imp fun σ H Q ⟨m, sl, h, rl, rs, p⟩ => p m H [] Ext.refl rl rfl
theorem sA_cons (hs : starEach (e :: es) X.env = (false, eval e X.env) :: starEach es X.env) (ha : PE X e (tE et X.K W fa)) (hr : PA X es (tA et X.K W fs)) : PA X (e :: es) (tA et X.K W fun sl h => (fa sl h).bind fun x h1 => (fs sl h1).bind fun xs h2 => .ok (x :: xs) h2) :=
  (pa_cons ha hr hs).imp fun σ H Q ⟨m, sl, h, rl, rs, p⟩ => ⟨m, sl, h, rl, rs, p.bind fun x h1 e1 m1 H1 v x1 rl1 rv1 p1 =>
    ⟨m1, sl, h1, rl1, rs.ext x1, p1.bind fun xs h2 e2 m2 H2 vs x2 rl2 rv2 p2 => p2 m2 H2 (v :: vs) Ext.refl rl2 ⟨v, vs, rfl, RV.ext x2 rv1, rv2⟩⟩⟩
theorem sE_isi {t : Ty} {x : Str} {p1 p2 : Pos} (hg : Gl X "isinstance") (hm : X.mg "isinstance" = none) (hg2 : Gl X x) (hm2 : X.mg x = none) (hx : bootBuiltins x = some (.type t.name)) (hn : x ≠ "__name__") (hd : (x == ("__debug__" : Str)) = false)
    (hs : starEach [a, .Name x p1] X.env = (false, eval a X.env) :: starEach [.Name x p1] X.env) (hpl : (backTo pos (starEach [.Name x p1] X.env)).any (·.1) = false) (ha : PE X a (tE et X.K W fa)) :
    PE X (.Call (.Name "isinstance" p2) [a, .Name x p1] [] pos) (tE et X.K W fun sl h => (fa sl h).bind fun x h1 => .ok (.bl (isiC x t)) h1) := by
  have hb : PE X (.Name x p1) (tC (.ty t.name)) := pe_bltn hg2 hm2 hx rfl hn hd
  have hA : PA X [a, .Name x p1] (tCons (tE et X.K W fa) (tCons (tC (.ty t.name)) tNil)) := pa_cons ha (pa_cons hb pa_nil (by rfl)) hs
  refine (pe_callB call_isi hg hm PyProof.Rows.boot_isinstance hA (by decide) (by decide) hs hpl).imp fun σ H Q ⟨m, sl, h, rl, rs, p⟩ => ⟨m, sl, h, rl, rs, p.bind fun c h1 e1 m1 H1 v x1 rl1 rv1 p1 => ?_⟩
  exact ⟨v, .ty t.name, .type (tyName (tyC c)), .type t.name, isiC c t, rfl, .ty _, tyx_of rl1 rv1, kit_ty (kit_table _ _), p1 m1 H1 _ Ext.refl rl1 rfl⟩
theorem sE_bi {x : Str} {p2 : Pos} {val : Value} (bb : Bi) (hval : biVal bb = val) (hcalm : X.calm = true ∨ bb = .repr) (hgu : X.A.guards = some []) (hu : X.A.units + 70 < cLine)
    (hA : PA X (e :: es) (tA et X.K W fs))
    (hcall : ∀ r, CallR X (biVal bb) r → PE X (.Call (.Name x p2) (e :: es) [] pos) (tCB r (tA et X.K W fs))) :
    PE X (.Call (.Name x p2) (e :: es) [] pos) (tE et X.K W fun sl h => (fs sl h).bind fun xs h1 => bi bb xs h1) := by
  refine ⟨fun pins s σ H Q I h => ?_⟩
  obtain ⟨r, hr, ok⟩ := bi_ok (X := X) (et := et) (W := fun c d H' => W c d σ H') bb hcalm hgu hu
  refine (hcall r hr).run pins s σ H Q I ?_
  obtain ⟨m, sl, h, rl, rs, p⟩ := h
  exact ⟨m, sl, h, rl, rs, p.bind fun xs h1 e1 m1 H1 vs x1 rl1 rv1 p1 => ok m1 H1 h1 xs vs Q rl1 rv1 p1⟩
theorem sT_tr (he : ∀ whole, isTrue a X.env whole = (do let v ← whole; standAt a.pos; holding [v] (truthy v))) (ha : PE X a (tE et X.K W fa)) : PT X a (tT et X.K W fun sl h => (fa sl h).bind fun x h1 => truth x h1) :=
  (pt_truth ha he).imp fun σ H Q ⟨m, sl, h, rl, rs, p⟩ => ⟨m, sl, h, rl, rs, p.bind fun x h1 e1 m1 H1 v x1 rl1 rv1 p1 => truth_ok rl1 rv1 p1⟩
theorem sT_not (ha : PT X a (tT et X.K W ft)) : PT X (.UnaryOp .Not a pos) (tT et X.K W fun sl h => (ft sl h).bind fun k h1 => .ok (!k) h1) :=
  (pt_not ha).imp fun σ H Q ⟨m, sl, h, rl, rs, p⟩ => ⟨m, sl, h, rl, rs, p.bind fun k h1 e1 m1 H1 v x1 rl1 rv1 p1 => by cases rv1; exact p1 m1 H1 _ Ext.refl rl1 rfl⟩
theorem sW_and {rest : List Expr} {fu : Sl → Hc → R Bool} (ha : PT X a (tT et X.K W ft)) (hb : PW X (.BoolOp .And (b :: rest) pos) (tT et X.K W fu)) : PW X (.BoolOp .And (a :: b :: rest) pos) (tT et X.K W fun sl h => (ft sl h).bind fun k h1 => if k then fu sl h1 else .ok false h1) :=
  (pw_and ha hb).imp fun σ H Q ⟨m, sl, h, rl, rs, p⟩ => ⟨m, sl, h, rl, rs, p.bind fun k h1 e1 m1 H1 v x1 rl1 rv1 p1 => by
    cases rv1
    cases k with
    | true => exact iteT ⟨m1, sl, h1, rl1, rs.ext x1, p1⟩
    | false => exact iteF (p1 m1 H1 _ Ext.refl rl1 rfl)⟩
theorem sW_or {rest : List Expr} {fu : Sl → Hc → R Bool} (ha : PT X a (tT et X.K W ft)) (hb : PW X (.BoolOp .Or (b :: rest) pos) (tT et X.K W fu)) : PW X (.BoolOp .Or (a :: b :: rest) pos) (tT et X.K W fun sl h => (ft sl h).bind fun k h1 => if k then .ok true h1 else fu sl h1) :=
  (pw_or ha hb).imp fun σ H Q ⟨m, sl, h, rl, rs, p⟩ => ⟨m, sl, h, rl, rs, p.bind fun k h1 e1 m1 H1 v x1 rl1 rv1 p1 => by
    cases rv1
    cases k with
    | true => exact iteT (p1 m1 H1 _ Ext.refl rl1 rfl)
    | false => exact iteF ⟨m1, sl, h1, rl1, rs.ext x1, p1⟩⟩
end
end Sh
set_option Elab.async false
set_option linter.all false
set_option autoImplicit false
set_option maxRecDepth 100000
set_option maxHeartbeats 8000000
/-! Sh, part E2: enumerate of a tuple. -/
namespace Sh
open PySem PySem.Spec PyProof.Rows L2
open PySem.AutoSeq1 (wpAny_loadPart')
set_option maxHeartbeats 1000000 in
theorem enum_newT (l : Addr) (items : Array Value) (n : Nat) (dct : Option Addr) (sl : Array (Option Value)) :
    Meets (Builtin.«enumerate.__new__» ⟨[.type "enumerate", .ref l], []⟩) (fun _ R s => s.heap.get? l = some { cls := .type "tuple", dict := dct, data := .seq items n, slots := sl } ∧
      R (.ok (.ret (.ref (s.heap.push { cls := .type "tuple_iterator", data := .fields #[.ref l, .int 0 0] }).objs.size)))
        { s with heap := (s.heap.push { cls := .type "tuple_iterator", data := .fields #[.ref l, .int 0 0] }).push { cls := .type "enumerate", data := .fields #[.none, .bool false, .ref s.heap.objs.size, rawInt 0, .none, .none] } }) :=
  .of_wp fun prog w A R s h => by
    obtain ⟨hp, g, d, tk, os⟩ := s; obtain ⟨hl, h⟩ := h
    have hsub := sub_enumerate
    have hT : Heap.IsTuple (Shared.heap ⟨hp, g, d, tk, os⟩) l items := ⟨_, hl, rfl, n, rfl⟩
    wp_walk using wpAny_loadPart' hl
    refine wpAny_stack_any fun st => wpAny_pure ?_
    split
    · rename_i c _ _ _ _ _
      cases (c == Value.type "enumerate")
      · wp_walk using wpAny_loadPart' hl, wpAny_pyIter_tuple hT
        exact ⟨_, rfl, h⟩
      · wp_walk using wpAny_loadPart' hl, wpAny_pyIter_tuple hT
        exact ⟨_, rfl, h⟩
    · wp_walk using wpAny_loadPart' hl, wpAny_pyIter_tuple hT
      exact ⟨_, rfl, h⟩
section
variable {prog : Program} {w : World} {A : Around} {E : Value → Shared → Prop} {s : Shared}
theorem call_enumT {l : Addr} {items : Array Value} {Q : Value → Shared → Prop} (hL : s.heap.IsTuple l items)
    (h : ∀ h', IsEnum h' (s.heap.objs.size + 1) s.heap.objs.size 0 .none → h'.IsTupleIter s.heap.objs.size l 0 →
      (∀ b o, s.heap.get? b = some o → h'.get? b = some o) → Q (.ref (s.heap.objs.size + 1)) { s with heap := h' }) :
    wpAny (model prog w) A (call (.type "enumerate") [.ref l]) Q E s := by
  obtain ⟨⟨c, dct, dt, sl⟩, hl, hc, n, hd⟩ := hL
  replace hc : c = .type "tuple" := hc
  replace hd : dt = .seq items n := hd
  subst hc hd
  refine callType_new F.called_enumerate (by decide) (F.typeCall_enumerate_1 _) (F.newCall_enumerate_1 _) (fun obj => F.args_object_init_2 obj _) F.entry_enumerate_new (enum_newT l items n dct sl) ⟨hl, ?_⟩
  have hz : (s.heap.push { cls := .type "tuple_iterator", data := .fields #[.ref l, .int 0 0] }).objs.size = s.heap.objs.size + 1 := Heap.size_push ..
  have he := Heap.get?_push_size (s.heap.push { cls := .type "tuple_iterator", data := .fields #[.ref l, .int 0 0] }) (o := { cls := .type "enumerate", data := .fields #[.none, .bool false, .ref s.heap.objs.size, rawInt 0, .none, .none] }) rfl
  rw [hz] at he
  show _ ∧ _
  rw [hz]
  exact ⟨⟨_, he, rfl⟩, h _ he ⟨_, Heap.get?_push_of_some _ (Heap.get?_push_size _ rfl), rfl, rfl⟩ fun b o x => Heap.get?_push_of_some _ (Heap.get?_push_of_some _ x)⟩
end
/-- the tuple at a, its items in new pairs -/
def Iten (K : PySem.W.Frag) (a : Addr) (n : Nat) : L2.It :=
  ⟨fun i H => i < n ∧ ∃ (xs : List V) (x : V), SqT K H a xs ∧ xs[i]? = some x, fun i H v H' => ∃ T x, v = .ref T ∧ H T = none ∧ H' = upd H T (.tup [.int (i : Nat), x]) ∧ ∀ xs, SqT K H a xs → xs[i]? = some x, fun i H => ∃ xs : List V, SqT K H a xs ∧ xs.length = n ∧ n ≤ i⟩
theorem turn_enT {P : Program} {w : World} {K : PySem.W.Frag} {elts : List Expr} {kk : Nat} {tpos : Pos} (a e it : Addr) (n : Nat) (hae : a ≠ e) (hai : a ≠ it) :
    Turn P w K (.Tuple elts kk tpos) (Iten K a n) [e, it] e (fun i h => i ≤ n ∧ (∃ old, IsEnum h e it ((i : Nat) : Int) old) ∧ h.IsTupleIter it a i ∧ e ≠ it) where
  mem := by simp
  obj := fun i h st b hb => by
    obtain ⟨_, ⟨old, he⟩, ⟨o, ho, hc, hd⟩, _⟩ := st
    have e' : b = e ∨ b = it := by simpa using hb
    rcases e' with z | z
    · rw [z]; exact ⟨_, he, fun v q => nomatch q⟩
    · rw [z]; exact ⟨o, ho, fun v q => by rw [hd] at q; cases q⟩
  keep := fun i h h' st k => let ⟨hin, ⟨old, he⟩, hi, hne⟩ := st; ⟨hin, ⟨old, k e (by simp) _ he⟩, hi.at fun o q => k it (by simp) o q, hne⟩
  item := by
    intro X hP hw hK hc i pins s σ H E I hf st hg
    subst hP hw hK
    obtain ⟨hin, ⟨old, he⟩, hit, hne⟩ := st
    obtain ⟨hlt, xs, x, hq, hx⟩ := hg
    obtain ⟨its, rv, p, hz⟩ := I.tuple hq
    obtain ⟨u, hu, ru⟩ := rv.get hx
    have hel : e < s.heap.objs.size := Heap.lt_size he
    have hil : it < s.heap.objs.size := by obtain ⟨_, q, _⟩ := hit; exact Heap.lt_size q
    have hT0 : s.heap.IsTuple a its.toArray := p
    have hil2 : i < its.length := (List.getElem?_eq_some_iff.mp hu).1
    refine wpAny_pyNext_enum_itemD (Draws.tuple (A := X.A.in1) (I.ok.hd hc) it a hai its.toArray) he ⟨hit, hT0⟩ (by simpa using hil2) hne (by simp [hne, Ne.symm hae]) fun y h' tk py ho sti hT hsz hk => ?_
    have hy : y = u := by
      have py : its.toArray[i]? = some y := py
      have : its.toArray[i]? = some u := by simpa using hu
      rw [this] at py
      exact (Option.some.inj py).symm
    subst hy
    refine ⟨_, rfl, wpAny_letOwnedTupleGo_enum (s := { s with heap := h', toks := tk + 1 }) ho fun h'' he' sb => ?_⟩
    have hT2 : h''.get? s.heap.objs.size = some { cls := .type "tuple", data := .seq #[.int i tk, y] } := (sb.2 _ (Nat.ne_of_gt hel)).trans hT
    have new : ObjOk X.prog X.w (upd H s.heap.objs.size (.tup [.int (i : Nat), x])) h'' s.heap.objs.size (.tup [.int (i : Nat), x]) :=
      ⟨by show 2 ≤ sizeLine; decide, [.int i tk, y], .cons ⟨_, rfl⟩ (.cons ru .nil), ⟨_, hT2, rfl, _, rfl⟩⟩
    have I1 : Inv X pins σ (upd H s.heap.objs.size (.tup [.int (i : Nat), x])) { s with heap := h'', toks := tk + 1 } :=
      I.turnedNew (ch := [e, it]) (fun b ob hb q => (sb.2 b (fun z => hb (by simp [z]))).trans (hk b ob (fun z => hb (by simp [z])) (fun z => hb (by simp [z])) q)) hf (Nat.le_refl _) new
    refine ⟨.ref s.heap.objs.size, _, I1, rfl, ⟨_, x, rfl, I.hok.fresh (Nat.le_refl _), rfl, fun ys hy => by rw [I.tuple_inj hy hq]; exact hx⟩, ⟨hlt, ⟨y, ?_⟩, sti.1.at fun o q => (sb.2 it (Ne.symm hne)).trans q, hne⟩, fun b hb => ?_⟩
    · have e1 : ((i + 1 : Nat) : Int) = (i : Int) + 1 := by omega
      rw [e1]; exact he'
    · have hb' : b < s.heap.objs.size := by
        have e' : b = e ∨ b = it := by simpa using hb
        rcases e' with z | z
        · rw [z]; exact hel
        · rw [z]; exact hil
      rw [upd_ne (Nat.ne_of_lt hb')]
      exact (hf b hb).1
  done := by
    intro X hP hw hK hc i pins s σ H E I hf st hg
    subst hP hw hK
    obtain ⟨hin, ⟨old, he⟩, hit, hne⟩ := st
    obtain ⟨xs, hq, hxl, hx⟩ := hg
    obtain ⟨its, rv, p, hz⟩ := I.tuple hq
    obtain ⟨f0, f1, f2, f3, f4, f5⟩ := hf it (by simp)
    have hT0 : s.heap.IsTuple a its.toArray := p
    have hl := rv.length
    have en : i = its.toArray.size := by simp; omega
    subst en
    exact wpAny_pyNext_enum_endD (Draws.tuple (A := X.A.in1) (I.ok.hd hc) it a hai its.toArray) he ⟨hit, hT0⟩ fun h' eb => ⟨rfl, I.turned (t' := s.toks) (fun b o hb q => eb b o hb q) f0 f1 f3 f4 f5⟩
  self := fun A i s Q E st h => let ⟨_, ⟨_, he⟩, _⟩ := st; wpAny_pyIter_enum he h
/-- enumerate(x), x a list or a tuple -/
def iEnA (K : PySem.W.Frag) (te : TE) : TI := fun σ H R => te σ H fun v H1 => ∃ (a : Addr) (xs : List V), v = .ref a ∧ ((SqL K H1 a xs ∧ R (Ite K a) H1) ∨ (SqT K H1 a xs ∧ R (Iten K a xs.length) H1))
theorem pi_enA {X : Cx} {e : Expr} {te : TE} {p pos tpos : Pos} {elts : List Expr} {kk : Nat} (hg : Gl X "enumerate") (hm : X.mg "enumerate" = none) (he : PE X e te) (hs : starEach [e] X.env = (false, eval e X.env) :: starEach [] X.env) :
    PI X (.Tuple elts kk tpos) (.Call (.Name "enumerate" p) [e] [] pos) (iEnA X.K te) := by
  refine ⟨fun pins s σ H R I h => ?_⟩
  refine Call_ (ld_blt I hg hm boot_enumerate (PyProof.Rows.callWith_type1 (args_cons (thn (he.run pins s σ H _ I h) fun u s1 ⟨v, H1, I1, r1, q1⟩ => args_nil ?_) hs) hs rfl))
  obtain ⟨a, xs, ev, q⟩ := q1
  subst ev
  obtain rfl : u = Value.ref a := r1
  have fp : ∀ b ∈ [s1.heap.objs.size + 1, s1.heap.objs.size], FpOk X pins H1 b := fun b hb => by
    have e' : b = s1.heap.objs.size + 1 ∨ b = s1.heap.objs.size := by simpa using hb
    have hle : s1.heap.objs.size ≤ b := by
      rcases e' with z | z
      · rw [z]; exact Nat.le_add_right _ _
      · rw [z]; exact Nat.le_refl _
    exact I1.fpOk hle (I1.hok.fresh hle)
  rcases q with ⟨hq, q⟩ | ⟨hq, q⟩
  · obtain ⟨its, rv, p', hz⟩ := I1.list hq
    refine call_enumerate_list p'.isList fun h' he hit hsz hk => wpAny_pyIter_enum he ?_
    have I2 : Inv X pins σ H1 { s1 with heap := h' } := I1.kept (t' := s1.toks) hk
    exact ⟨s1.heap.objs.size + 1, [s1.heap.objs.size + 1, s1.heap.objs.size], _, _, H1, rfl, I2, turn_enum a (s1.heap.objs.size + 1) s1.heap.objs.size, ⟨⟨.none, he⟩, hit, Nat.succ_ne_self _⟩, fp, q⟩
  · obtain ⟨its, rv, p', hz⟩ := I1.tuple hq
    have hT0 : s1.heap.IsTuple a its.toArray := p'
    have ha : a < s1.heap.objs.size := by
      obtain ⟨o, ho, _⟩ := hT0
      exact Heap.lt_size ho
    refine call_enumT hT0 fun h' he hit hk => wpAny_pyIter_enum he ?_
    have I2 : Inv X pins σ H1 { s1 with heap := h' } := I1.kept (t' := s1.toks) hk
    exact ⟨s1.heap.objs.size + 1, [s1.heap.objs.size + 1, s1.heap.objs.size], _, _, H1, rfl, I2, turn_enT a (s1.heap.objs.size + 1) s1.heap.objs.size xs.length (Nat.ne_of_lt (Nat.lt_succ_of_lt ha)) (Nat.ne_of_lt ha), ⟨Nat.zero_le _, ⟨.none, he⟩, hit, Nat.succ_ne_self _⟩, fp, q⟩
end Sh
set_option Elab.async false
set_option linter.all false
set_option autoImplicit false
set_option maxRecDepth 100000
set_option maxHeartbeats 8000000
/-! Sh, part G: a written expression matches a plain one; then the plain one tells what it does. -/
namespace Sh
open PySem PySem.Spec PyProof.Rows L2

structure Cfg where
  N : List Str
  kind : Str → Option NameKind
  fn : List (Str × List Str)
  kw : List (Nat × Nat × List Str × List Nat)
  con : List (Str × C)
  bn : List Str
  gcd : Bool
  cl : Str → Bool := fun _ => false
  kd : List (Str × List Str) := []

def visB (cf : Cfg) (x : Str) : Bool := cf.kind x == some .local || cf.kind x == some .cell || cf.kind x == some .free
def glB (cf : Cfg) (x : Str) : Bool := cf.kind x == some .globalImplicit && !(x == ("__debug__" : Str)) && !(x == ("__name__" : Str))
def varB (cf : Cfg) (i : Nat) (x : Str) : Bool := cf.N[i]? == some x && visB cf x && !(x == ("__debug__" : Str)) && !(x == ("__classdict__" : Str))
def freeB (cf : Cfg) (x : Str) : Bool := glB cf x && cf.bn.contains x
def biB (cf : Cfg) (b : Bi) (x : Str) : Bool := match b with
  | .gcd => glB cf x && cf.gcd
  | _ => freeB cf x
def conIs : Const → C → Bool
  | .none, .non => true
  | .bool a, .bl b => a == b
  | .int i, .int j => i == j
  | .str x, .str y => x == y
  | _, _ => false
def cFlat : C → C → Bool
  | .int i, .int j => i == j
  | .str x, .str y => x == y
  | .bl a, .bl b => a == b
  | _, _ => false
def cFlats : List C → List C → Bool
  | [], [] => true
  | x :: xs, y :: ys => cFlat x y && cFlats xs ys
  | _, _ => false
def cSame : C → C → Bool
  | .tup xs, .tup ys => cFlats xs ys
  | x, y => cFlat x y
theorem cFlat_eq {x y : C} (h : cFlat x y = true) : x = y := by
  cases x <;> cases y <;> first | (have := beq_iff_eq.mp h; rw [this]) | cases h
theorem cFlats_eq : ∀ {xs ys : List C}, cFlats xs ys = true → xs = ys
  | [], [], _ => rfl
  | [], _ :: _, h => by cases h
  | _ :: _, [], h => by cases h
  | x :: xs, y :: ys, h => by
    obtain ⟨h1, h2⟩ := Bool.and_eq_true_iff.mp h
    rw [cFlat_eq h1, cFlats_eq h2]
theorem cSame_eq {x y : C} (h : cSame x y = true) : x = y := by
  cases x with
  | tup xs =>
    cases y with
    | tup ys => rw [cFlats_eq (show cFlats xs ys = true from h)]
    | _ => cases h
  | _ => exact cFlat_eq (by cases y <;> exact h)
def noStar : Expr → Bool
  | .Starred _ _ => false
  | _ => true
def plainT : Expr → Bool
  | .Name _ _ => true
  | .Call _ _ _ _ => true
  | .Subscript _ _ _ => true
  | .Constant _ _ _ => true
  | .BinOp _ _ _ _ => true
  | _ => false
def noSlice : Expr → Bool
  | .Name _ _ => true
  | .Call _ _ _ _ => true
  | .Subscript _ _ _ => true
  | .Constant _ _ _ => true
  | .BinOp _ _ _ _ => true
  | .UnaryOp _ _ _ => true
  | _ => false
def andTail (m : Expr → Bool) (op : BoolOp) (p : Pos) : List Expr → Bool
  | [] => false
  | [y] => m y
  | y :: z :: r => m (.BoolOp op (y :: z :: r) p)
def kwName : Keyword → Option Str := fun k => k.arg

def locB (cf : Cfg) (i : Nat) (x : Str) : Bool := cf.N[i]? == some x && (cf.kind x == some .local || cf.cl x)
def okTg : It → Expr → Bool
  | .enum _ => fun e => match e with
    | .Tuple _ _ _ => true
    | _ => false
  | _ => fun _ => true
def isName : Expr → Bool
  | .Name _ _ => true
  | _ => false
def notSet : Expr → Bool
  | .Set _ _ _ => false
  | _ => true
/-- the names of a comprehension's own block -/
def blkKind (cf : Cfg) (scope : Scope) (y : Str) : Option NameKind := match scope.names.lookup y with
  | some .free => if cf.kind y == some .cell then some .cell else some .free
  | r => r
def Cfg.blk (cf : Cfg) (scope : Scope) : Cfg := { cf with kind := blkKind cf scope, cl := fun y => scope.names.lookup y == some .cell }
def ownOf (cf : Cfg) (vs : List Nat) : List (Str × Nat) := vs.map fun i => (cf.N.getD i "", i)
def blkB (cf : Cfg) (scope : Scope) (vs : List Nat) : Bool := scope.kind == .function && scope.names.all (fun y => scope.names.lookup y.1 == some y.2) && vs.all (fun i => decide (i < cf.N.length)) && scope.names.all (fun y => !(y.2 == .free) || (cf.kind y.1 == some .cell || cf.kind y.1 == some .free)) &&
  scope.names.all fun y => !(y.2 == .local || y.2 == .cell) || (((ownOf cf vs).map (·.1)).contains y.1 || !(cf.N.contains y.1))
mutual
def flatP : Pt → Bool
  | .v _ => true
  | .tup ps => flatPs ps
  | .sub _ _ => false
def flatPs : Pts → Bool
  | .nil => true
  | .cons (.v _) ps => flatPs ps
  | .cons _ _ => false
end
def Pt.isYes : T → Bool
  | .yes => true
  | _ => false
mutual
def mE : E → Cfg → Expr → Bool
  | .unk => fun _ _ => true
  | .ind a neg y ks => fun cf e => match e with
    | .Compare l ops rs _ => match ops with
      | [op] => match rs with
        | [r] => match r with
          | .Name x _ => decide (op = if neg then .NotIn else .In) && !(behindInMarks op r) && (x == y) && glB cf x && cf.kd.contains (x, ks) && mE a cf l
          | _ => false
        | _ => false
      | _ => false
    | _ => false
  | .dnew => fun cf e => match e with
    | .Dict ks vs _ => ks.isEmpty && vs.isEmpty
    | _ => false
  | .dget a i => fun cf e => match e with
    | .Subscript l r _ => noSlice r && (mE a cf l && mE i cf r)
    | _ => false
  | .inr a neg es => fun cf e => match e with
    | .Compare l ops rs _ => match ops with
      | [op] => match rs with
        | [r] => match r with
          | .Call fn args kws _ => match fn with
            | .Name x _ => kws.isEmpty && decide (x = "range") && freeB cf x && decide (op = if neg then .NotIn else .In) && !(behindInMarks op r) && !args.isEmpty && mEs es cf args && mE a cf l
            | _ => false
          | _ => false
        | _ => false
      | _ => false
    | _ => false
  | .con c => fun cf e => match e with
    | .Constant k _ _ => conIs k c
    | _ => false
  | .var i => fun cf e => match e with
    | .Name x _ => varB cf i x
    | _ => false
  | .glob y c => fun cf e => match e with
    | .Name x _ => x == y && glB cf x && cf.con.any fun p => p.1 == x && cSame p.2 c
    | _ => false
  | .bin o a b => fun cf e => match e with
    | .BinOp l op r _ => decide (op = opr o) && (mE a cf l && mE b cf r)
    | _ => false
  | .neg a => fun cf e => match e with
    | .UnaryOp op l _ => decide (op = .USub) && mE a cf l
    | _ => false
  | .notv a => fun cf e => match e with
    | .UnaryOp op l _ => decide (op = .Not) && mE a cf l
    | _ => false
  | .cmp o a b => fun cf e => match e with
    | .Compare l ops rs _ => match ops with
      | [op] => match rs with
        | [r] => decide (op = cmr o) && !(behindInMarks (cmr o) r) && (mE a cf l && mE b cf r)
        | _ => false
      | _ => false
    | _ => false
  | .chain o o' a b c => fun cf e => match e with
    | .Compare l ops rs _ => match ops with
      | [op, op'] => match rs with
        | [r, q] => decide (op = cmr o) && decide (op' = cmr o') && !(lastMarks [cmr o, cmr o'] [r, q]) && (mE a cf l && (mE b cf r && mE c cf q))
        | _ => false
      | _ => false
    | _ => false
  | .andv a b => fun cf e => match e with
    | .BoolOp op l p => match l with
      | x :: l => decide (op = .And) && (mE a cf x && andTail (mE b cf) .And p l)
      | [] => false
    | _ => false
  | .orv a b => fun cf e => match e with
    | .BoolOp op l p => match l with
      | x :: l => decide (op = .Or) && (mE a cf x && andTail (mE b cf) .Or p l)
      | [] => false
    | _ => false
  | .ite t a b => fun cf e => match e with
    | .IfExp c l r _ => mT t cf c && (mE a cf l && mE b cf r)
    | _ => false
  | .tup es => fun cf e => match e with
    | .Tuple l _ _ => decide (l.length ≤ 1000) && mEs es cf l
    | _ => false
  | .lst es => fun cf e => match e with
    | .List l _ => mEs es cf l
    | _ => false
  | .idx a i => fun cf e => match e with
    | .Subscript l r _ => noSlice r && (mE a cf l && mE i cf r)
    | _ => false
  | .slc a lo hi => fun cf e => match e with
    | .Subscript l r _ => match r with
      | .Slice lo' hi' st _ => st.isNone && (mE a cf l && (mO lo cf lo' && mO hi cf hi'))
      | _ => false
    | _ => false
  | .call f es => fun cf e => match e with
    | .Call fn args kws _ => match fn with
      | .Name x _ => kws.isEmpty && glB cf x && decide ((cf.fn[f]?).map (·.1) = some x) && mEs es cf args
      | _ => false
    | _ => false
  | .callk f es ks perm => fun cf e => match e with
    | .Call fn args kws _ => match fn with
      | .Name x _ => glB cf x && decide ((cf.fn[f]?).map (·.1) = some x) && cf.kw.any (fun q => decide (q = (f, args.length, kws.filterMap kwName, perm))) && decide ((kws.filterMap kwName).length = kws.length) && (mEs es cf args && mKs ks cf kws)
      | _ => false
    | _ => false
  | .bi b es => fun cf e => match e with
    | .Call fn args kws _ => match fn with
      | .Name x _ => kws.isEmpty && decide (x = biName b) && biB cf b x && !args.isEmpty && mEs es cf args
      | _ => false
    | _ => false
  | .isi a t => fun cf e => match e with
    | .Call fn args kws _ => match fn with
      | .Name f _ => match args with
        | [l, r] => match r with
          | .Name x _ => kws.isEmpty && decide (f = "isinstance") && freeB cf f && decide (x = Str.ofString t.name) && freeB cf x && noStar l && mE a cf l
          | _ => false
        | _ => false
      | _ => false
    | _ => false
  | .revs a => fun cf e => match e with
    | .Subscript l r _ => match r with
      | .Slice lo hi st _ => lo.isNone && hi.isNone && (match st with
        | some st => match st with
          | .UnaryOp op c _ => decide (op = .USub) && (match c with
            | .Constant k _ _ => (match k with
              | .int i => i == 1
              | _ => false)
            | _ => false)
          | _ => false
        | none => false) && mE a cf l
      | _ => false
    | _ => false
  | .pop a => fun cf e => match e with
    | .Call fn args kws cpos => match fn with
      | .Attribute o nm apos => args.isEmpty && kws.isEmpty && decide (nm = "pop") && isName o && apos.endLine == cpos.line && mE a cf o
      | _ => false
    | _ => false
  | .comp a p it t => fun cf e => match e with
    | .ListComp elt gens scope _ => match gens with
      | [g] => match g with
        | ⟨tg, iter, ifs, asy⟩ => decide (asy = 0) && notSet iter && blkB cf scope p.slots && flatP p && (mI it cf iter && okTg it tg) && mP p (cf.blk scope) tg && (match ifs with
          | [] => Pt.isYes t
          | [c] => mT t (cf.blk scope) c
          | _ => false) && mE a (cf.blk scope) elt
      | _ => false
    | _ => false
  | _ => fun _ _ => false
def mT : T → Cfg → Expr → Bool
  | .inr a neg es => fun cf e => match e with
    | .Compare l ops rs _ => match ops with
      | [op] => match rs with
        | [r] => match r with
          | .Call fn args kws _ => match fn with
            | .Name x _ => kws.isEmpty && decide (x = "range") && freeB cf x && decide (op = if neg then .NotIn else .In) && !(behindInMarks op r) && !args.isEmpty && mEs es cf args && mE a cf l
            | _ => false
          | _ => false
        | _ => false
      | _ => false
    | _ => false
  | .tr a => fun cf e => plainT e && mE a cf e
  | .cmp o a b => fun cf e => match e with
    | .Compare l ops rs _ => match ops with
      | [op] => match rs with
        | [r] => decide (op = cmr o) && !(behindInMarks (cmr o) r) && (mE a cf l && mE b cf r)
        | _ => false
      | _ => false
    | _ => false
  | .chn o o' a b c => fun cf e => match e with
    | .Compare l ops rs _ => match ops with
      | [op, op'] => match rs with
        | [r, q] => decide (op = cmr o) && decide (op' = cmr o') && !(lastMarks [cmr o, cmr o'] [r, q]) && (mE a cf l && (mE b cf r && mE c cf q))
        | _ => false
      | _ => false
    | _ => false
  | .and a b => fun cf e => match e with
    | .BoolOp op l p => match l with
      | x :: l => decide (op = .And) && (mT a cf x && andTail (mT b cf) .And p l)
      | [] => false
    | _ => false
  | .or a b => fun cf e => match e with
    | .BoolOp op l p => match l with
      | x :: l => decide (op = .Or) && (mT a cf x && andTail (mT b cf) .Or p l)
      | [] => false
    | _ => false
  | .not a => fun cf e => match e with
    | .UnaryOp op l _ => decide (op = .Not) && mT a cf l
    | _ => false
  | _ => fun _ _ => false
def mEs : Es → Cfg → List Expr → Bool
  | .nil => fun cf l => l.isEmpty
  | .cons a es => fun cf l => match l with
    | x :: l => noStar x && (mE a cf x && mEs es cf l)
    | [] => false
def mKs : Es → Cfg → List Keyword → Bool
  | .nil => fun cf l => l.isEmpty
  | .cons a es => fun cf l => match l with
    | x :: l => mE a cf x.value && mKs es cf l
    | [] => false
def mO : Oe → Cfg → Option Expr → Bool
  | .none => fun cf l => l.isNone
  | .some a => fun cf l => match l with
    | some x => mE a cf x
    | none => false
def mP : Pt → Cfg → Expr → Bool
  | .v i => fun cf e => match e with
    | .Name x _ => locB cf i x
    | _ => false
  | .sub o i => fun cf e => match e with
    | .Subscript l r _ => noSlice r && (mE o cf l && mE i cf r)
    | _ => false
  | .tup ps => fun cf e => match e with
    | .Tuple l _ _ => mPs ps cf l
    | _ => false
def mPs : Pts → Cfg → List Expr → Bool
  | .nil => fun cf l => l.isEmpty
  | .cons p ps => fun cf l => match l with
    | x :: l => noStar x && (mP p cf x && mPs ps cf l)
    | [] => false
def mI : It → Cfg → Expr → Bool
  | .seq a => fun cf e => mE a cf e
  | .rng1 a => fun cf e => match e with
    | .Call fn args kws _ => match fn with
      | .Name x _ => match args with
        | [l] => kws.isEmpty && decide (x = "range") && freeB cf x && noStar l && mE a cf l
        | _ => false
      | _ => false
    | _ => false
  | .enum a => fun cf e => match e with
    | .Call fn args kws _ => match fn with
      | .Name x _ => match args with
        | [l] => kws.isEmpty && decide (x = "enumerate") && freeB cf x && noStar l && mE a cf l
        | _ => false
      | _ => false
    | _ => false
  | .rev a => fun cf e => match e with
    | .Call fn args kws _ => match fn with
      | .Name x _ => match args with
        | [l] => kws.isEmpty && decide (x = "reversed") && freeB cf x && noStar l && mE a cf l
        | _ => false
      | _ => false
    | _ => false
  | .rng2 a b => fun cf e => match e with
    | .Call fn args kws _ => match fn with
      | .Name x _ => match args with
        | [l, r] => kws.isEmpty && decide (x = "range") && freeB cf x && noStar l && noStar r && (mE a cf l && mE b cf r)
        | _ => false
      | _ => false
    | _ => false
  | _ => fun _ _ => false
end

/-- the promise of a def of the plain language -/
def spI (et : ETab) (K : PySem.W.Frag) (f : List C → Hc → R C) : Sp := fun vs H Q E => ∃ m h cs, Rl K m h H ∧ RVs K m H cs vs ∧ Post et K (fun c d H' => E c d H') m H (relV K) Q (f cs h)

/-- what stands around -/
structure Good (cf : Cfg) (et : ETab) (call : Nat → List C → Hc → R C) (k : Nat) (X : Cx) (W : WX) : Prop where
  N : X.N = cf.N
  nd : cf.N.Nodup
  kind : ∀ x, X.env.kindOf x = cf.kind x
  fnc : ∀ x, cf.cl x = true → X.fn x = true ∧ cf.kind x = some .cell
  sk : X.env.scope.kind = .function
  calm : X.calm = true
  room : Room k X.A
  gu : X.A.guards = some []
  tk : Takes X W
  bn : ∀ x, cf.bn.contains x = true → X.mg x = none
  gcd : cf.gcd = true → X.mg "gcd" = some (.builtin "math.gcd")
  kd : ∀ x ks, (x, ks) ∈ cf.kd → ∃ d es n, X.mg x = some (.ref d) ∧ KDict X.K X.w d es n ∧ ∀ z, ∃ r, PySem.W.nsIn X.K d z = some r ∧ r.isSome = ks.contains z
  con : ∀ x c, (x, c) ∈ cf.con → ∃ v u, X.mg x = some u ∧ RelV v u ∧ ∀ m H, RV X.K m H c v
  fn : ∀ (f : Nat) (x : Str) (ps : List Str), cf.fn[f]? = some (x, ps) → ∃ a fd, X.mg x = some (.ref a) ∧ PySem.W.keepIn X.K (.ref a) = true ∧ Binds X.K fd ps [] ∧ FnOkG X.prog X.w X.K X.mg X.base k a fd ps (spI et X.K (call f)) ∧
    ∀ n ks perm, (f, n, ks, perm) ∈ cf.kw → KBinds X.K fd ps ks (gK n ks.length perm) (gK n ks.length perm) ∧ 0 < ps.length

section
variable {cf : Cfg} {et : ETab} {call : Nat → List C → Hc → R C} {sub : Nat → Str → Option Bool} {w : Nat} {k : Nat} {X : Cx} {W : WX}
theorem star_of {e : Expr} {es : List Expr} {env : Env} (h : noStar e = true) : starEach (e :: es) env = (false, eval e env) :: starEach es env := by
  cases e <;> first | rfl | cases h
theorem two {a b : Bool} (h : (a && b) = true) : a = true ∧ b = true := Bool.and_eq_true_iff.mp h
theorem noB {a : Bool} (h : (!a) = true) : a = false := by cases a <;> first | rfl | cases h
theorem Good.units (g : Good cf et call k X W) : X.A.units + 70 < cLine := by have := g.room.un; omega
theorem Good.gl (g : Good cf et call k X W) {x : Str} (h : glB cf x = true) : Gl X x ∧ (x == ("__debug__" : Str)) = false ∧ x ≠ "__name__" := by
  obtain ⟨h1, h3⟩ := two h
  obtain ⟨h1, h2⟩ := two h1
  refine ⟨?_, noB h2, fun z => ?_⟩
  · show X.env.kindOf x = _
    rw [g.kind x]
    exact beq_iff_eq.mp h1
  · have := noB h3
    rw [z] at this
    simp at this
theorem Good.free (g : Good cf et call k X W) {x : Str} (h : freeB cf x = true) : Gl X x ∧ X.mg x = none ∧ (x == ("__debug__" : Str)) = false ∧ x ≠ "__name__" := by
  obtain ⟨h1, h2⟩ := two h
  obtain ⟨a, b, c⟩ := g.gl h1
  exact ⟨a, g.bn x h2, b, c⟩
theorem truth_he {e : Expr} (h : plainT e = true) (env : Env) : ∀ whole, isTrue e env whole = (do let v ← whole; standAt e.pos; holding [v] (truthy v)) := by
  intro whole
  cases e <;> first | rfl | cases h
theorem plain_ix {e : Expr} (h : noSlice e = true) : PlainIx e := by
  intro o i
  cases e <;> first | rfl | cases h
theorem no_any : ∀ {es : Es} {l : List Expr} {env : Env} {pos : Pos}, mEs es cf l = true → (backTo pos (starEach l env)).any (·.1) = false
  | .nil, l, env, pos, h => by
    cases l with
    | nil => rfl
    | cons _ _ => cases h
  | .cons a es, l, env, pos, h => by
    cases l with
    | nil => cases h
    | cons x l =>
      obtain ⟨h1, h2⟩ := two h
      obtain ⟨h2, h3⟩ := two h2
      rw [star_of h1]
      show (false || (backTo pos (starEach l env)).any (·.1)) = false
      rw [no_any h3]
      rfl
theorem pn_of {p : Bool → Bool} : True := trivial
theorem kw_all : ∀ {kws : List Keyword} {env : Env} {pos : Pos}, (kws.filterMap kwName).length = kws.length → (backToKw pos (keywordEach kws env)).all (·.1.isSome) = true ∧ (backToKw pos (keywordEach kws env)).filterMap (·.1) = kws.filterMap kwName ∧ (backToKw pos (keywordEach kws env)).any (·.1.isNone) = false
  | [], _, _, _ => ⟨rfl, rfl, rfl⟩
  | ⟨nm, v, p⟩ :: kws, env, pos, h => by
    have hle : (kws.filterMap kwName).length ≤ kws.length := List.length_filterMap_le _ _
    cases nm with
    | none =>
      exfalso
      have : (kws.filterMap kwName).length = kws.length + 1 := h
      omega
    | some n =>
      have h' : (kws.filterMap kwName).length = kws.length := by
        have : (kws.filterMap kwName).length + 1 = kws.length + 1 := h
        omega
      obtain ⟨a, b, c⟩ := kw_all (env := env) (pos := pos) h'
      refine ⟨?_, ?_, ?_⟩
      · show (true && (backToKw pos (keywordEach kws env)).all (·.1.isSome)) = true
        rw [a]; rfl
      · show n :: (backToKw pos (keywordEach kws env)).filterMap (·.1) = n :: kws.filterMap kwName
        rw [b]
      · show (false || (backToKw pos (keywordEach kws env)).any (·.1.isNone)) = false
        rw [c]; rfl
theorem sK_nil : PK X [] (tA et X.K W fun _ h => .ok [] h) := ⟨fun pos pins s σ H Q I ⟨m, sl, h, rl, rs, p⟩ => pk_nil.run pos pins s σ H Q I (p m H [] Ext.refl rl rfl)⟩
theorem sK_cons {nm : Option Str} {e : Expr} {kpos : Pos} {kws : List Keyword} {fa : Sl → Hc → R C} {fs : Sl → Hc → R (List C)} (ha : PE X e (tE et X.K W fa)) (hr : PK X kws (tA et X.K W fs)) : PK X (⟨nm, e, kpos⟩ :: kws) (tA et X.K W fun sl h => (fa sl h).bind fun x h1 => (fs sl h1).bind fun xs h2 => .ok (x :: xs) h2) :=
  ⟨fun pos pins s σ H Q I ⟨m, sl, h, rl, rs, p⟩ => (pk_cons ha hr).run pos pins s σ H Q I ⟨m, sl, h, rl, rs, p.bind fun x h1 e1 m1 H1 v x1 rl1 rv1 p1 =>
    ⟨m1, sl, h1, rl1, rs.ext x1, p1.bind fun xs h2 e2 m2 H2 vs x2 rl2 rv2 p2 => p2 m2 H2 (v :: vs) Ext.refl rl2 ⟨v, vs, rfl, RV.ext x2 rv1, rv2⟩⟩⟩⟩
theorem RVs.filterAt {K : PySem.W.Frag} {m : List Addr} {H : Hp} {cs : List C} {vs : List V} (q : RVs K m H cs vs) : ∀ perm : List Nat, RVs K m H (perm.filterMap fun i => cs[i]?) (perm.filterMap fun i => vs[i]?)
  | [] => rfl
  | i :: perm => by
    have ih := RVs.filterAt q perm
    rw [List.filterMap_cons, List.filterMap_cons]
    cases e : cs[i]? with
    | none =>
      have : vs[i]? = none := by
        rw [List.getElem?_eq_none_iff] at e ⊢
        rw [← q.length]; exact e
      rw [this]
      exact ih
    | some c =>
      obtain ⟨v, e1, e2⟩ := q.get e
      rw [e1]
      exact ⟨v, _, rfl, e2, ih⟩
theorem sE_call1 {f : Nat} {x : Str} {p pos : Pos} {e : Expr} {es : List Expr} {fs : Sl → Hc → R (List C)} {ps : List Str} (g : Good cf et call k X W) (hf : cf.fn[f]? = some (x, ps)) (hg : glB cf x = true) (hA : PA X (e :: es) (tA et X.K W fs))
    (s1 : starEach (e :: es) X.env = (false, eval e X.env) :: starEach es X.env) (s2 : (backTo pos (starEach es X.env)).any (·.1) = false) :
    PE X (.Call (.Name x p) (e :: es) [] pos) (tE et X.K W fun sl h => (fs sl h).bind fun xs h1 => call f xs h1) := by
  obtain ⟨a, fd, hm, hk, hb, F, _⟩ := g.fn f x ps hf
  obtain ⟨g1, g2, g3⟩ := g.gl hg
  exact (pe_g F g.gu g.room g1 hm hk hb (E := WE W) (fun σ => passAt g.tk σ) hA g2 s1 s2).imp fun σ H Q ⟨m, sl, h, rl, rs, q⟩ =>
    ⟨m, sl, h, rl, rs, q.bind fun xs h1 e1 m1 H1 vs x1 rl1 rv1 p1 => ⟨m1, h1, xs, rl1, rv1, p1⟩⟩
theorem sE_call0 {f : Nat} {x : Str} {p pos : Pos} {ps : List Str} (g : Good cf et call k X W) (hf : cf.fn[f]? = some (x, ps)) (hg : glB cf x = true) :
    PE X (.Call (.Name x p) [] [] pos) (tE et X.K W fun _ h => call f [] h) := by
  obtain ⟨a, fd, hm, hk, hb, F, _⟩ := g.fn f x ps hf
  obtain ⟨g1, g2, g3⟩ := g.gl hg
  exact (pe_g0 F g.gu g.room g1 hm hk hb (E := WE W) (fun σ => passAt g.tk σ) g2).imp fun σ H Q ⟨m, sl, h, rl, rs, q⟩ => ⟨m, h, [], rl, rfl, q⟩
theorem gK_rel {K : PySem.W.Frag} {m : List Addr} {H : Hp} {n j : Nat} {perm : List Nat} {xs ys : List C} {vs zs : List V} (q : RVs K m H xs vs) (r : RVs K m H ys zs) : RVs K m H (gK n j perm xs ys) (gK n j perm vs zs) := by
  unfold gK
  rw [q.length, r.length]
  split
  · exact RVs.append q (RVs.filterAt r perm)
  · rfl
theorem sE_callk1 {f : Nat} {x : Str} {p pos : Pos} {e : Expr} {es : List Expr} {kws : List Keyword} {fs gs : Sl → Hc → R (List C)} {ps : List Str} {n : Nat} {perm : List Nat} (g : Good cf et call k X W) (hf : cf.fn[f]? = some (x, ps)) (hg : glB cf x = true)
    (hkw : (f, n, kws.filterMap kwName, perm) ∈ cf.kw) (hl : (kws.filterMap kwName).length = kws.length) (hA : PA X (e :: es) (tA et X.K W fs)) (hK : PK X kws (tA et X.K W gs))
    (s1 : starEach (e :: es) X.env = (false, eval e X.env) :: starEach es X.env) (s2 : (backTo pos (starEach es X.env)).any (·.1) = false) :
    PE X (.Call (.Name x p) (e :: es) kws pos) (tE et X.K W fun sl h => (fs sl h).bind fun xs h1 => (gs sl h1).bind fun ys h2 => call f (gK n kws.length perm xs ys) h2) := by
  obtain ⟨a, fd, hm, hk, hb, F, hkb⟩ := g.fn f x ps hf
  obtain ⟨g1, g2, g3⟩ := g.gl hg
  obtain ⟨kb, _⟩ := hkb n _ perm hkw
  obtain ⟨k1, k2, k3⟩ := kw_all (env := X.env) (pos := pos) hl
  refine (pe_gk F g.gu g.room g1 hm hk kb (E := WE W) (fun σ => passAt g.tk σ) hA hK k1 k2 g2 s1 (by
    rw [s1]
    show ((false || (backTo pos (starEach es X.env)).any (·.1)) || _) = false
    rw [s2, k3]; rfl)).imp fun σ H Q ⟨m, sl, h, rl, rs, q⟩ => ⟨m, sl, h, rl, rs, q.bind fun xs h1 e1 m1 H1 vs x1 rl1 rv1 p1 => ?_⟩
  refine ⟨m1, sl, h1, rl1, rs.ext x1, p1.bind fun ys h2 e2 m2 H2 zs x2 rl2 rv2 p2 => ?_⟩
  refine ⟨m2, h2, gK n kws.length perm xs ys, rl2, ?_, p2⟩
  rw [hl]
  exact gK_rel (RVs.ext x2 rv1) rv2
theorem sE_callk0 {f : Nat} {x : Str} {p pos : Pos} {kws : List Keyword} {gs : Sl → Hc → R (List C)} {ps : List Str} {perm : List Nat} (g : Good cf et call k X W) (hf : cf.fn[f]? = some (x, ps)) (hg : glB cf x = true)
    (hkw : (f, 0, kws.filterMap kwName, perm) ∈ cf.kw) (hl : (kws.filterMap kwName).length = kws.length) (hK : PK X kws (tA et X.K W gs)) :
    PE X (.Call (.Name x p) [] kws pos) (tE et X.K W fun sl h => (gs sl h).bind fun ys h2 => call f (gK 0 kws.length perm [] ys) h2) := by
  obtain ⟨a, fd, hm, hk, hb, F, hkb⟩ := g.fn f x ps hf
  obtain ⟨g1, g2, g3⟩ := g.gl hg
  obtain ⟨kb, _⟩ := hkb 0 _ perm hkw
  obtain ⟨k1, k2, k3⟩ := kw_all (env := X.env) (pos := pos) hl
  refine ⟨fun pins s σ H Q I ⟨m, sl, h, rl, rs, q⟩ => ?_⟩
  refine wpAny_Call_Name_kw (ld_glob I g1 hm ?_ g2)
  refine PySem.W.callWith_KW0 (h₀ := X.base) I.ok.mod.kin hk k1 ?_ (by
    show (false || _) = false
    rw [k3]; rfl)
  refine thn (hK.run pos pins s σ H (fun zs H2 => spI et X.K (call f) (gK 0 (kws.filterMap kwName).length perm [] zs) H2 Q (WE W σ)) I ⟨m, sl, h, rl, rs, q.bind fun ys h2 e2 m2 H2 zs x2 rl2 rv2 p2 => ⟨m2, h2, _, rl2, by rw [hl]; exact gK_rel (n := 0) (xs := []) (vs := []) rfl rv2, p2⟩⟩) fun ws s2 ⟨zs, H2, I2, rz, q2⟩ => ⟨I2.kIn, ?_⟩
  rw [k2]
  exact run_gk (us := []) (vs := []) F g.gu g.room kb (E := WE W) (passAt g.tk σ) I2 .nil rz q2
end
end Sh
set_option Elab.async false
set_option linter.all false
set_option autoImplicit false
set_option maxRecDepth 100000
set_option maxHeartbeats 8000000
/-! Sh, part I: statements. -/
namespace Sh
open PySem PySem.Spec PyProof.Rows L2

section
variable (et : ETab) (K : PySem.W.Frag) (W : WX)
def PostS (D : Ends) (m : List Addr) (H : Hp) : RS' → Prop
  | .nx sl h => ∀ m' H' σ', Ext K m H m' H' → Rl K m' h H' → RS K m' H' sl σ' → D.nx σ' H'
  | .ret c h => ∀ m' H' v, Ext K m H m' H' → Rl K m' h H' → RV K m' H' c v → D.rt v H'
  | .bk sl h => ∀ m' H' σ', Ext K m H m' H' → Rl K m' h H' → RS K m' H' sl σ' → D.bk σ' H'
  | .ct sl h => ∀ m' H' σ', Ext K m H m' H' → Rl K m' h H' → RS K m' H' sl σ' → D.ct σ' H'
  | .err k xs sl h => ∀ m' H' σ' cls d, Ext K m H m' H' → Rl K m' h H' → RS K m' H' sl σ' → RX et K m' H' k xs cls d → W cls d σ' H'
  | .bad => False
def tS (f : Sl → Hc → RS') : TS := fun D σ H => ∃ m sl h, Rl K m h H ∧ RS K m H sl σ ∧ PostS et K W D m H (f sl h)
end
def relS (K : PySem.W.Frag) : List Addr → Hp → Sl → L2.St → Prop := fun m H sl σ => RS K m H sl σ
def tG (et : ETab) (K : PySem.W.Frag) (f : C → Sl → Hc → R Sl) : TG := fun v σ H Q => ∃ m sl h c, Rl K m h H ∧ RS K m H sl σ ∧ RV K m H c v ∧ Post et K (fun _ _ _ => False) m H (relS K) Q (f c sl h)
def tGs (et : ETab) (K : PySem.W.Frag) (f : List C → Sl → Hc → R Sl) : TGs := fun vs σ H Q => ∃ m sl h cs, Rl K m h H ∧ RS K m H sl σ ∧ RVs K m H cs vs ∧ Post et K (fun _ _ _ => False) m H (relS K) Q (f cs sl h)

section
variable {et : ETab} {K : PySem.W.Frag} {W : WX} {D : Ends} {m m' : List Addr} {H H' : Hp} {sl : Sl} {σ : L2.St} {α β : Type} {rel : List Addr → Hp → α → β → Prop} {Q : β → Hp → Prop}
theorem PostS.ext {r : RS'} (p : PostS et K W D m H r) (e : Ext K m H m' H') : PostS et K W D m' H' r := by
  cases r with
  | nx sl h => exact fun m2 H2 s x => p m2 H2 s (e.trans x)
  | ret c h => exact fun m2 H2 s x => p m2 H2 s (e.trans x)
  | bk sl h => exact fun m2 H2 s x => p m2 H2 s (e.trans x)
  | ct sl h => exact fun m2 H2 s x => p m2 H2 s (e.trans x)
  | err k xs sl h => exact fun m2 H2 s c d x => p m2 H2 s c d (e.trans x)
  | bad => exact p
theorem PostS.th {r : R α} {f : α → Hc → RS'} (p : PostS et K W D m H (r.th sl f)) (rs : RS K m H sl σ)
    (g : ∀ a h1, r = .ok a h1 → ∀ m1 H1 v, Ext K m H m1 H1 → Rl K m1 h1 H1 → rel m1 H1 a v → PostS et K W D m1 H1 (f a h1) → Q v H1) : Post et K (fun c d H' => W c d σ H') m H rel Q r := by
  cases r with
  | ok a h => exact fun m1 H1 v x rl rv => g a h rfl m1 H1 v x rl rv (PostS.ext p x)
  | err k xs h => exact fun m1 H1 c d x rl rx => p m1 H1 σ c d x rl (rs.ext x) rx
  | bad => exact p
theorem PostS.seq {r : RS'} {f : Sl → Hc → RS'} (p : PostS et K W D m H (r.th f)) : PostS et K W { D with nx := fun σ H => tS et K W f D σ H } m H r := by
  cases r with
  | nx sl h => exact fun m1 H1 s x rl rs => ⟨m1, sl, h, rl, rs, PostS.ext p x⟩
  | ret c h => exact p
  | bk sl h => exact p
  | ct sl h => exact p
  | err k xs sl h => exact p
  | bad => exact p
theorem Post.noerr {r : R α} {Wa Wb : Value → Option Addr → Hp → Prop} (p : Post et K Wa m H rel Q r.noerr) : Post et K Wb m H rel Q r := by
  cases r with
  | ok a h => exact p
  | err k xs h => exact False.elim p
  | bad => exact p
end

section
variable {cf : Cfg} {et : ETab} {call : Nat → List C → Hc → R C} {sub : Nat → Str → Option Bool} {w : Nat} {k : Nat} {X : Cx} {W : WX}

/-! ### targets -/
theorem Good.loc (g : Good cf et call k X W) {i : Nat} {x : Str} (h : locB cf i x = true) : X.N[i]? = some x ∧ Loc X.env.scope x ∧ (X.fn x = true ∨ X.env.scope.names.lookup x = some .local) ∧ X.N.Nodup := by
  obtain ⟨h1, h2⟩ := two h
  have q : X.env.scope.names.lookup x = cf.kind x := g.kind x
  refine ⟨by rw [g.N]; exact beq_iff_eq.mp h1, ?_, ?_, by rw [g.N]; exact g.nd⟩
  · rcases Bool.or_eq_true_iff.mp h2 with z | z
    · exact .inl (q.trans (beq_iff_eq.mp z))
    · exact .inr (q.trans (g.fnc x z).2)
  · rcases Bool.or_eq_true_iff.mp h2 with z | z
    · exact .inr (q.trans (beq_iff_eq.mp z))
    · exact .inl (g.fnc x z).1
theorem RS.setN {K : PySem.W.Frag} {m : List Addr} {H : Hp} {sl : Sl} {σ : L2.St} (r : RS K m H sl σ) (i : Nat) {c : C} {v : V} (q : RV K m H c v) : RS K m H (sl.set i (some c)) (σ.set i (some v)) := r.set i q

theorem asg_of {e : Expr} {es : List Expr} {env : Env} (h : noStar e = true) : assignEach (e :: es) env = (false, assign e env) :: assignEach es env := by
  cases e <;> first | rfl | cases h
theorem asg_len : ∀ {ps : Pts} {l : List Expr} {env : Env}, mPs ps cf l = true → (assignEach l env).length = l.length ∧ (assignEach l env).findIdx? (·.1) = none
  | .nil, l, env, h => by
    cases l with
    | nil => exact ⟨rfl, rfl⟩
    | cons _ _ => cases h
  | .cons p ps, l, env, h => by
    cases l with
    | nil => cases h
    | cons x l =>
      obtain ⟨h1, h2⟩ := two h
      obtain ⟨h2, h3⟩ := two h2
      obtain ⟨q1, q2⟩ := asg_len (env := env) h3
      rw [asg_of h1]
      refine ⟨by simp [q1], ?_⟩
      rw [List.findIdx?_cons, q2]
      rfl
theorem len_ps : ∀ {ps : Pts} {l : List Expr}, mPs ps cf l = true → l.length = ps.len
  | .nil, l, h => by
    cases l with
    | nil => rfl
    | cons _ _ => cases h
  | .cons p ps, l, h => by
    cases l with
    | nil => cases h
    | cons x l =>
      obtain ⟨h1, h2⟩ := two h
      obtain ⟨h2, h3⟩ := two h2
      show l.length + 1 = ps.len + 1
      rw [len_ps h3]
end
end Sh
set_option Elab.async false
set_option linter.all false
set_option autoImplicit false
set_option maxRecDepth 100000
set_option maxHeartbeats 8000000
/-! Sh, part H0: what is walked; comprehensions. -/
namespace Sh
open PySem PySem.Spec PyProof.Rows L2

/-- the layer's iterator does as the plain one, from now on -/
def JRel (K : PySem.W.Frag) (m : List Addr) (H : Hp) (it : ItV) (J : L2.It) : Prop :=
  ∀ (i : Nat) (m' : List Addr) (h' : Hc) (H' : Hp), Ext K m H m' H' → Rl K m' h' H' →
    (it.at_ i h' = some none → J.stop i H') ∧ ∀ c, it.at_ i h' = some (some c) → J.go i H' ∧ ∀ x H2, J.yld i H' x H2 → ∃ m2, Ext K m' H' m2 H2 ∧ Rl K m2 h' H2 ∧ RV K m2 H2 c x
def relJ (K : PySem.W.Frag) : List Addr → Hp → ItV → L2.It → Prop := fun m H it J => JRel K m H it J
def tI (et : ETab) (K : PySem.W.Frag) (W : WX) (f : Sl → Hc → R ItV) : TI := fun σ H R => ∃ m sl h, Rl K m h H ∧ RS K m H sl σ ∧ Post et K (fun c d H' => W c d σ H') m H (relJ K) R (f sl h)
theorem JRel.ext {K : PySem.W.Frag} {m m' : List Addr} {H H' : Hp} {it : ItV} {J : L2.It} (j : JRel K m H it J) (e : Ext K m H m' H') : JRel K m' H' it J := fun i m2 h2 H2 x rl => j i m2 h2 H2 (e.trans x) rl

section
variable {X : Cx} {tg : Expr} {et : ETab} {W : WX}
def iSeq (K : PySem.W.Frag) (tl : TE) : TI := fun σ H R => tl σ H fun x H1 => (∃ a, x = .ref a ∧ (∃ xs, SqL K H1 a xs) ∧ R (Itl K a) H1) ∨ (∃ a, x = .ref a ∧ (∃ xs, SqT K H1 a xs) ∧ R (Itt K a) H1) ∨ ∃ z, x = .str z ∧ R (Its z) H1
theorem pi_seq {l : Expr} {tl : TE} (hl : PE X l tl) : PI X tg l (iSeq X.K tl) := by
  refine ⟨fun pins s σ H R I h => ?_⟩
  refine thn (hl.run pins s σ H _ I h) fun v s1 ⟨x, H1, I1, r1, q1⟩ => ?_
  rcases q1 with ⟨a, e, ⟨xs, hq⟩, q⟩ | ⟨a, e, ⟨xs, hq⟩, q⟩ | ⟨z, e, q⟩
  · subst e
    cases r1
    obtain ⟨its, rv, p, hz⟩ := I1.list hq
    refine wpAny_pyIter_list p.isList ?_
    refine ⟨s1.heap.objs.size, [s1.heap.objs.size], _, _, H1, rfl, I1.kept (t' := s1.toks) fun b o e => Heap.get?_push_of_some _ e, turn_list a _, ⟨_, Heap.get?_push_size _ rfl, rfl, rfl⟩, fun b hb => ?_, q⟩
    have e : b = s1.heap.objs.size := by simpa using hb
    subst e
    exact I1.fpOk (Nat.le_refl _) (I1.hok.fresh (Nat.le_refl _))
  · subst e
    cases r1
    obtain ⟨its, rv, p, hz⟩ := I1.tuple hq
    refine wpAny_pyIter_tuple (show s1.heap.IsTuple a its.toArray from p) ?_
    refine ⟨s1.heap.objs.size, [s1.heap.objs.size], _, _, H1, rfl, I1.kept (t' := s1.toks) fun b o e => Heap.get?_push_of_some _ e, turn_tuple a _, ⟨_, Heap.get?_push_size _ rfl, rfl, rfl⟩, fun b hb => ?_, q⟩
    have e : b = s1.heap.objs.size := by simpa using hb
    subst e
    exact I1.fpOk (Nat.le_refl _) (I1.hok.fresh (Nat.le_refl _))
  · subst e
    obtain ⟨t, rfl⟩ := r1
    cases ha : z.cps.all (· < 128)
    · exact wpAny_pyIter_wide ha (pi_one (tk := s1.toks) I1 _ (turn_str _ z t "str_iterator" (.inr rfl)) ⟨_, Heap.get?_push_size _ rfl, rfl, rfl⟩ q)
    · exact wpAny_pyIter_ascii ha (pi_one (tk := s1.toks) I1 _ (turn_str _ z t "str_ascii_iterator" (.inl rfl)) ⟨_, Heap.get?_push_size _ rfl, rfl, rfl⟩ q)
theorem jr_txt {m : List Addr} {H : Hp} {z : Str} : JRel X.K m H (.txt z) (Its z) := by
  intro i m' h' H' e rl
  have at_ : ItV.at_ (.txt z) i h' = some ((z.cps[i]?).map fun c => .str ⟨#[c]⟩) := rfl
  rw [at_]
  cases e1 : z.cps[i]? with
  | none => exact ⟨fun _ => Array.getElem?_eq_none_iff.mp e1, fun c z => by cases z⟩
  | some c0 =>
    refine ⟨fun z => (by cases z), fun c z => ?_⟩
    cases z
    refine ⟨(Array.getElem?_eq_some_iff.mp e1).1, fun x H2 y => ?_⟩
    obtain ⟨rfl, c1, e2, rfl⟩ := y
    rw [e1] at e2
    cases e2
    exact ⟨m', Ext.refl, rl, rfl⟩
theorem jr_lst {m : List Addr} {H : Hp} {n : Nat} {a : Addr} (hm : m[n]? = some a) (hL : IsL H a) : JRel X.K m H (.lst n) (Itl X.K a) := by
  intro i m' h' H' e rl
  have hm' := e.pre _ _ hm
  obtain ⟨cs, vs, hc, hv, rv⟩ := rl.get hm' (e.kl _ hL)
  have at_ : ItV.at_ (.lst n) i h' = some cs[i]? := by
    show (match h'[n]? with | some cs => some cs[i]? | none => none) = _
    rw [hc]
  rw [at_]
  constructor
  · intro z
    have z' : cs[i]? = none := Option.some.inj z
    exact ⟨vs, SqL.of hv, by rw [← rv.length]; exact List.getElem?_eq_none_iff.mp z'⟩
  · intro c z
    have z' : cs[i]? = some c := Option.some.inj z
    obtain ⟨w, w1, w2⟩ := rv.get z'
    refine ⟨⟨vs, w, SqL.of hv, w1⟩, fun x H2 y => ?_⟩
    obtain ⟨rfl, y⟩ := y
    have := (y vs (SqL.of hv)).symm.trans w1
    cases this
    exact ⟨m', Ext.refl, rl, w2⟩
theorem jr_tre {m : List Addr} {H : Hp} {cs : List C} {vs : List V} {a : Addr} (ht : SqT X.K H a vs) (rv : RVs X.K m H cs vs) : JRel X.K m H (.tre cs) (Itt X.K a) := by
  intro i m' h' H' e rl
  have ht' := e.tu _ _ ht
  have rv' := rv.ext e
  have at_ : ItV.at_ (.tre cs) i h' = some cs[i]? := rfl
  rw [at_]
  constructor
  · intro z
    have z' : cs[i]? = none := Option.some.inj z
    exact ⟨vs, ht', by rw [← rv'.length]; exact List.getElem?_eq_none_iff.mp z'⟩
  · intro c z
    have z' : cs[i]? = some c := Option.some.inj z
    obtain ⟨w, w1, w2⟩ := rv'.get z'
    refine ⟨⟨vs, w, ht', w1⟩, fun x H2 y => ?_⟩
    obtain ⟨rfl, y⟩ := y
    have := (y vs ht').symm.trans w1
    cases this
    exact ⟨m', Ext.refl, rl, w2⟩
theorem jr_rng {m : List Addr} {H : Hp} {lo : Int} {n : Nat} : JRel X.K m H (.rng lo n) (Itr lo n) := by
  intro i m' h' H' e rl
  have at_ : ItV.at_ (.rng lo n) i h' = if i < n then some (some (.int (lo + i))) else some none := rfl
  rw [at_]
  by_cases hi : i < n
  · rw [if_pos hi]
    refine ⟨fun z => (by cases z), fun c z => ?_⟩
    cases z
    refine ⟨hi, fun x H2 y => ?_⟩
    obtain ⟨rfl, rfl⟩ := y
    exact ⟨m', Ext.refl, rl, rfl⟩
  · rw [if_neg hi]
    exact ⟨fun _ => Nat.le_of_not_lt hi, fun c z => by cases z⟩
end

/-! ### a list that grows beside the store -/
section
variable {K : PySem.W.Frag} {m m' : List Addr} {H H' : Hp}
structure Xw (K : PySem.W.Frag) (m : List Addr) (H : Hp) (m' : List Addr) (H' : Hp) : Prop where
  pre : ∀ (n : Nat) (a : Addr), m[n]? = some a → m'[n]? = some a
  tu : ∀ a xs, SqT K H a xs → SqT K H' a xs
  fz : ∀ a o u, H a = some (.frz o u) → H' a = some (.frz o u)
  kl : ∀ a, IsL H a → IsL H' a
  kd : ∀ a, IsD H a → IsD H' a
  tp : ∀ b vs, H b = some (.tup vs) → b ∉ m → b ∉ m' ∧ H' b = some (.tup vs)
mutual
theorem RV.xw (e : Xw K m H m' H') : ∀ {c : C} {v : V}, RV K m H c v → RV K m' H' c v
  | .non, _, h => h
  | .bl _, _, h => h
  | .int _, _, h => h
  | .str _, _, h => h
  | .tup cs, _, h => by
    obtain ⟨a, vs, e1, e2, e3⟩ := h
    exact ⟨a, vs, e1, e.tu _ _ e2, RVs.xw e e3⟩
  | .ref n, _, h => by
    obtain ⟨a, e1, e2, e3⟩ := h
    exact ⟨a, e.pre _ _ e1, e2, e.kl _ e3⟩
  | .frz cs, _, h => by
    obtain ⟨a, vs, e1, e2, e3⟩ := h
    exact ⟨a, vs, e1, e2.imp (fun ⟨o, q⟩ => ⟨o, e.fz _ _ _ q⟩) id, RVs.xw e e3⟩
  | .rep d, _, h => h
  | .dref n, _, h => by
    obtain ⟨a, e1, e2, e3⟩ := h
    exact ⟨a, e.pre _ _ e1, e2, e.kd _ e3⟩
theorem RVs.xw (e : Xw K m H m' H') : ∀ {cs : List C} {vs : List V}, RVs K m H cs vs → RVs K m' H' cs vs
  | [], _, h => h
  | c :: cs, _, h => by
    obtain ⟨v, r, e1, e2, e3⟩ := h
    exact ⟨v, r, e1, RV.xw e e2, RVs.xw e e3⟩
end
theorem DTs.xw (e : Xw K m H m' H') : ∀ {es : List C} {kvs : List (List Key × V)}, DTs K m H es kvs → DTs K m' H' es kvs
  | [], _, h => h
  | _ :: es, _, h => by
    obtain ⟨c, ns, v, r, e1, e2, e3, e4⟩ := h
    exact ⟨c, ns, v, r, e1, e2, e3.xw e, DTs.xw e e4⟩
theorem DKs.xw (e : Xw K m H m' H') : ∀ {es : List C} {kvs : List (Key × V)}, DKs K m H es kvs → DKs K m' H' es kvs
  | [], _, h => h
  | _ :: es, _, h => by
    obtain ⟨c, ns, v, r, e1, e2, e3, e4⟩ := h
    exact ⟨c, ns, v, r, e1, e2, e3.xw e, DKs.xw e e4⟩
theorem DCell.xw {cs : List C} {a : Addr} (h : DCell K m H cs a) (e : Xw K m H m' H') (ha : H' a = H a) : DCell K m' H' cs a := by
  rcases h with ⟨es, kvs, h1, h2, h3⟩ | ⟨es, kvs, h1, h2, h3⟩
  · exact .inl ⟨es, kvs, h1, ha.trans h2, h3.xw e⟩
  · exact .inr ⟨es, kvs, h1, ha.trans h2, h3.xw e⟩
theorem Xw.more {D : Addr} {us : List V} (hD : H D = some (.lst us)) : Xw K m H (m ++ [D]) H := by
  refine ⟨fun n a q => by rw [List.getElem?_append_left (List.getElem?_eq_some_iff.mp q).1]; exact q, fun _ _ h => h, fun _ _ _ h => h, fun _ h => h, fun _ h => h, fun b vs q n => ⟨fun z => ?_, q⟩⟩
  rcases List.mem_append.mp z with z | z
  · exact n z
  · have : b = D := by simpa using z
    rw [this, hD] at q
    cases q
theorem Xw.put {D : Addr} {us ws : List V} (hD : H D = some (.lst us)) : Xw K m H m (upd H D (.lst ws)) := by
  have ne : ∀ {b : Addr} {u : HO}, H b = some u → u ≠ .lst us → b ≠ D := fun {b u} q d z => by
    rw [z, hD] at q
    exact d (Option.some.inj q).symm
  refine ⟨fun _ _ q => q, fun b xs q => ?_, fun b o u q => by rw [upd_ne (ne q (by intro z; cases z))]; exact q, fun b q => ?_, fun b q => ?_, fun b vs q n => ⟨n, by rw [upd_ne (ne q (by intro z; cases z))]; exact q⟩⟩
  · rcases q with (q | ⟨o, q⟩) | q
    · exact .inl (.inl (by rw [upd_ne (ne q (by intro z; cases z))]; exact q))
    · exact .inl (.inr ⟨o, by rw [upd_ne (ne q (by intro z; cases z))]; exact q⟩)
    · exact .inr q
  · by_cases hb : b = D
    · subst hb
      exact ⟨ws, upd_same⟩
    · obtain ⟨xs, q⟩ := q
      exact ⟨xs, by rw [upd_ne hb]; exact q⟩
  · rcases q with ⟨xs, q⟩ | ⟨xs, q⟩
    · exact .inl ⟨xs, by rw [upd_ne (ne q (by intro z; cases z))]; exact q⟩
    · exact .inr ⟨xs, by rw [upd_ne (ne q (by intro z; cases z))]; exact q⟩
theorem Rl.put {h : Hc} {D : Addr} {us ws : List V} (r : Rl K m h H) (hD : H D = some (.lst us)) (n : D ∉ m) : Rl K m h (upd H D (.lst ws)) := by
  refine ⟨r.len, r.nd, fun i a cs e1 e2 => ?_⟩
  have hne : a ≠ D := by
    rintro rfl
    exact n (List.mem_of_getElem? e1)
  rcases r.at_ i a cs e1 e2 with ⟨vs, q1, q2⟩ | q
  · exact .inl ⟨vs, by rw [upd_ne hne]; exact q1, q2.xw (Xw.put hD)⟩
  · exact .inr (q.xw (Xw.put hD) (upd_ne hne))
theorem Ext.put {m1 : List Addr} {H1 : Hp} {D : Addr} {us ws : List V} (e : Ext K m1 H1 m H) (h0 : H1 D = none) (hD : H D = some (.lst us)) : Ext K m1 H1 m (upd H D (.lst ws)) := by
  have x := Xw.put (K := K) (m := m) (ws := ws) hD
  refine ⟨e.pre, fun b o q d n => ?_, fun a xs q => x.tu _ _ (e.tu a xs q), fun a o u q => x.fz _ _ _ (e.fz a o u q), fun P q n t => ⟨(e.tb P q n t).1, tabS_upd (e.tb P q n t).2 fun o z => by rw [hD] at z; exact .inl ⟨us, (Option.some.inj z).symm⟩⟩, fun a q => x.kl _ (e.kl a q), fun a q => x.kd _ (e.kd a q)⟩
  obtain ⟨n1, n2⟩ := e.fr b o q d n
  exact ⟨n1, by rw [upd_ne (ne_of_none q h0)]; exact n2⟩
theorem Rl.take_in {h : Hc} {D : Addr} {us : List V} {cs : List C} (r : Rl K m h H) (hD : H D = some (.lst us)) (n : D ∉ m) (q : RVs K m H cs us) : Rl K (m ++ [D]) (h ++ [cs]) H := by
  refine ⟨by simp [r.len], ?_, fun i a ds e1 e2 => ?_⟩
  · refine List.nodup_append.mpr ⟨r.nd, by simp, fun a ha b hb => ?_⟩
    have : b = D := by simpa using hb
    subst this
    rintro rfl
    exact n ha
  · by_cases hl : i < m.length
    · rw [List.getElem?_append_left hl] at e1
      rw [List.getElem?_append_left (r.len ▸ hl)] at e2
      rcases r.at_ i a ds e1 e2 with ⟨ws, q1, q2⟩ | q
      · exact .inl ⟨ws, q1, q2.xw (Xw.more hD)⟩
      · exact .inr (q.xw (Xw.more hD) rfl)
    · have hn' : i = m.length := by
        have := (List.getElem?_eq_some_iff.mp e1).1
        simp at this
        omega
      subst hn'
      rw [List.getElem?_append_right (Nat.le_refl _)] at e1
      rw [r.len, List.getElem?_append_right (Nat.le_refl _)] at e2
      simp at e1 e2
      subst e1 e2
      exact .inl ⟨us, hD, q.xw (Xw.more hD)⟩
theorem Ext.take_in {m1 : List Addr} {H1 : Hp} {D : Addr} (e : Ext K m1 H1 m H) (h0 : H1 D = none) : Ext K m1 H1 (m ++ [D]) H := by
  refine ⟨fun i a q => by rw [List.getElem?_append_left (List.getElem?_eq_some_iff.mp (e.pre i a q)).1]; exact e.pre i a q, fun b o q d n => ?_, e.tu, e.fz, fun P q n t => ⟨fun z => ?_, (e.tb P q n t).2⟩, e.kl, e.kd⟩
  · obtain ⟨n1, n2⟩ := e.fr b o q d n
    refine ⟨fun z => ?_, n2⟩
    rcases List.mem_append.mp z with z | z
    · exact n1 z
    · have : b = D := by simpa using z
      rw [this, h0] at q
      cases q
  · rcases List.mem_append.mp z with z | z
    · exact (e.tb P q n t).1 z
    · have : P = D := by simpa using z
      obtain ⟨ps, h1, _⟩ := t
      rw [this, h0] at h1
      cases h1
theorem RS.setNone {sl : Sl} {σ : L2.St} (r : RS K m H sl σ) (i : Nat) (o : Option V) : RS K m H (sl.set i none) (σ.set i o) := by
  refine r.weak (by simp) (by simp) fun j c q => ?_
  by_cases hj : i = j
  · subst hj
    by_cases hi : i < sl.length
    · rw [List.getElem?_set_self hi] at q
      cases q
    · rw [List.getElem?_eq_none (by simpa using hi)] at q
      cases q
  · rw [List.getElem?_set_ne hj] at q
    exact ⟨q, fun v e => by rw [List.getElem?_set_ne hj]; exact e⟩
theorem RS.wipe {sl : Sl} {σ : L2.St} (r : RS K m H sl σ) : ∀ vs : List Nat, RS K m H (wipeC sl vs) (L2.wipe σ vs)
  | [] => r
  | v :: vs => (RS.wipe r vs).setNone v none
end
/-- targets that are names: what is left where they are forgotten again -/
theorem wipe_set {σ : L2.St} {i : Nat} {o : Option V} : ∀ {vs : List Nat}, i ∈ vs → L2.wipe (σ.set i o) vs = L2.wipe σ vs
  | [], h => by cases h
  | v :: vs, h => by
    show (L2.wipe (σ.set i o) vs).set v none = (L2.wipe σ vs).set v none
    have key : ∀ (vs : List Nat) (σ : L2.St), L2.wipe (σ.set i o) vs = if i ∈ vs then L2.wipe σ vs else (L2.wipe σ vs).set i o := by
      intro vs
      induction vs with
      | nil => intro σ; rfl
      | cons u us ih =>
        intro σ
        show (L2.wipe (σ.set i o) us).set u none = _
        rw [ih]
        by_cases h1 : i ∈ us
        · rw [if_pos h1, if_pos (List.mem_cons_of_mem _ h1)]
          rfl
        · rw [if_neg h1]
          by_cases h2 : i = u
          · subst h2
            rw [if_pos List.mem_cons_self, List.set_set]
            rfl
          · rw [if_neg (by simp [h1, h2])]
            show ((L2.wipe σ us).set i o).set u none = ((L2.wipe σ us).set u none).set i o
            rw [List.set_comm _ _ h2]
    rw [key]
    by_cases h1 : i ∈ vs
    · rw [if_pos h1]
    · rw [if_neg h1]
      rcases List.mem_cons.mp h with rfl | h
      · rw [List.set_set]
      · exact absurd h h1
def NoX : WX := fun _ _ _ _ => False
/-- what the loop of a comprehension is to come to -/
def FinC (K : PySem.W.Frag) (m1 : List Addr) (H1 : Hp) (D : Addr) (Q : V → Hp → Prop) : R (List C) → Prop
  | .ok xs h => ∀ m H us, Ext K m1 H1 m H → Rl K m h H → H D = some (.lst us) → D ∉ m → RVs K m H xs us → Q (.ref D) H
  | _ => False
theorem FinC.bind {et : ETab} {K : PySem.W.Frag} {m1 m : List Addr} {H1 H : Hp} {D : Addr} {Q : V → Hp → Prop} {α β : Type} {rel : List Addr → Hp → α → β → Prop} {Q2 : β → Hp → Prop} {W2 : Value → Option Addr → Hp → Prop} {r : R α} {f : α → Hc → R (List C)} (p : FinC K m1 H1 D Q (r.bind f))
    (g : ∀ a h2, r = .ok a h2 → ∀ m2 H2 v, Ext K m H m2 H2 → Rl K m2 h2 H2 → rel m2 H2 a v → FinC K m1 H1 D Q (f a h2) → Q2 v H2) : Post et K W2 m H rel Q2 r := by
  cases r with
  | ok a h => exact fun m2 H2 v x rl rv => g a h rfl m2 H2 v x rl rv p
  | err _ _ _ => exact False.elim p
  | bad => exact False.elim p
section
variable {X : Cx} {et : ETab} {W : WX} {elt tg iter : Expr} {ifs : List Expr} {scope : Scope} {own : List (Str × Nat)} {pos : Pos}
/-- a reading of a target whose slots are all among vs -/
def tGv (et : ETab) (K : PySem.W.Frag) (vs : List Nat) (f : C → Sl → Hc → R Sl) : TG := fun v σ H Q => ∃ m sl h c, Rl K m h H ∧ RS K m H sl σ ∧ RV K m H c v ∧ Post et K (fun _ _ _ => False) m H (fun m' H' sl' σ' => RS K m' H' sl' σ' ∧ L2.wipe σ' vs = L2.wipe σ vs) Q (f c sl h)
theorem lc_read {fi : Sl → Hc → R ItV} {fg : C → Sl → Hc → R Sl} {ft : Sl → Hc → R Bool} {fe : Sl → Hc → R C} {w : Nat} {K : PySem.W.Frag} {vs : List Nat} {σ : L2.St} {H : Hp} {Q : VK}
    (p : tE et K W (fun sl h => (fi sl h).bind fun v h1 => (compF v fg ft fe w 0 (wipeC sl vs) [] h1).noerr.bind fun xs h2 => .ok (.ref h2.length) (h2 ++ [xs])) σ H Q) : tLc (tI et K W fi) (tGv et K vs fg) (tT et K NoX ft) (tE et K NoX fe) vs σ H Q := by
  obtain ⟨m, sl, h, rl, rs, p⟩ := p
  refine ⟨m, sl, h, rl, rs, p.bind fun it h1 e1 m1 H1 J x1 rl1 j1 p1 => ?_⟩
  intro D hD
  have rs1 := rs.ext x1
  have p0 : FinC K m1 H1 D Q (compF it fg ft fe w 0 (wipeC sl vs) [] h1) := by
    cases e : compF it fg ft fe w 0 (wipeC sl vs) [] h1 with
    | ok xs h3 =>
      rw [e] at p1
      intro m3 H3 us x3 rl3 hD3 n3 rv3
      refine p1 (m3 ++ [D]) H3 (.ref D) (x3.take_in hD) (rl3.take_in hD3 n3 rv3) ⟨D, ?_, rfl, us, hD3⟩
      rw [← rl3.len, List.getElem?_append_right (Nat.le_refl _)]
      simp
    | err _ _ _ => rw [e] at p1; exact False.elim p1
    | bad => rw [e] at p1; exact False.elim p1
  have n1 : D ∉ m1 := rl1.out hD
  refine ⟨fun i n Hh => ∃ m2 h2 acc us, Ext K m1 H1 m2 Hh ∧ Rl K m2 h2 Hh ∧ Hh D = some (.lst us) ∧ D ∉ m2 ∧ RVs K m2 Hh acc us ∧ FinC K m1 H1 D Q (compF it fg ft fe n i (wipeC sl vs) acc h2), ⟨w, m1, h1, [], [], Ext.new hD, rl1.new hD, upd_same, n1, rfl, p0⟩, ?_⟩
  rintro i n Hh ⟨m2, h2, acc, us, x2, rl2, hD2, n2, rv2, p2⟩
  cases n with
  | zero => exact False.elim p2
  | succ n =>
    have p2 : FinC K m1 H1 D Q (match it.at_ i h2 with
      | none => .bad
      | some none => .ok acc h2
      | some (some c) => (fg c (wipeC sl vs) h2).bind fun sl1 h1 => (ft sl1 h1).bind fun k h2 => if k then (fe sl1 h2).bind fun x h3 => if acc.length < lineN then compF it fg ft fe n (i + 1) (wipeC sl vs) (acc ++ [x]) h3 else .bad
        else compF it fg ft fe n (i + 1) (wipeC sl vs) acc h2) := p2
    obtain ⟨q1, q2⟩ := j1 i m2 h2 Hh x2 rl2
    cases e : it.at_ i h2 with
    | none => rw [e] at p2; exact False.elim p2
    | some o =>
      cases o with
      | none =>
        rw [e] at p2
        exact .inl ⟨q1 e, p2 m2 Hh us x2 rl2 hD2 n2 rv2⟩
      | some c =>
        rw [e] at p2
        obtain ⟨go, yl⟩ := q2 c e
        refine .inr ⟨go, fun H' => ∃ n', n' < n + 1 ∧ ∃ m2 h2 acc us, Ext K m1 H1 m2 H' ∧ Rl K m2 h2 H' ∧ H' D = some (.lst us) ∧ D ∉ m2 ∧ RVs K m2 H' acc us ∧ FinC K m1 H1 D Q (compF it fg ft fe n' (i + 1) (wipeC sl vs) acc h2), fun H' q => q, fun x H' y => ?_⟩
        obtain ⟨m3, x3, rl3, rv3⟩ := yl x H' y
        have y3 := x2.trans x3
        refine ⟨m3, wipeC sl vs, h2, c, rl3, (rs1.ext y3).wipe _, rv3, FinC.bind p2 fun sl1 h4 e4 m4 H4 σ4 x4 rl4 rs4 p4 => ⟨?_, m4, sl1, h4, rl4, rs4.1, FinC.bind p4 fun k h5 e5 m5 H5 b x5 rl5 rv5 p5 => ?_⟩⟩
        · have wi : ∀ (vs : List Nat) (σ : L2.St), L2.wipe (L2.wipe σ vs) vs = L2.wipe σ vs := fun vs => by
            have : ∀ (us : List Nat), (∀ u ∈ us, u ∈ vs) → ∀ σ : L2.St, L2.wipe (L2.wipe σ us) vs = L2.wipe σ vs := fun us => by
              induction us with
              | nil => exact fun _ σ => rfl
              | cons u us ih =>
                intro hu σ
                show L2.wipe ((L2.wipe σ us).set u none) vs = _
                rw [wipe_set (hu u List.mem_cons_self), ih fun v hv => hu v (List.mem_cons_of_mem _ hv)]
            exact this vs fun _ h => h
          have := rs4.2
          rw [wi] at this
          exact this
        · cases rv5
          obtain ⟨f1, f2⟩ := ((x3.trans x4).trans x5).fr D _ hD2 (fun _ z => by cases z) n2
          cases k with
          | false =>
            rw [if_neg Bool.false_ne_true] at p5
            rw [if_neg Bool.false_ne_true]
            exact ⟨n, Nat.lt_succ_self n, m5, h5, acc, us, ((y3.trans x4).trans x5), rl5, f2, f1, rv2.ext ((x3.trans x4).trans x5), p5⟩
          | true =>
            rw [if_pos rfl] at p5
            rw [if_pos rfl]
            refine ⟨m5, sl1, h5, rl5, rs4.1.ext x5, FinC.bind p5 fun xc h6 e6 m6 H6 yv x6 rl6 rv6 p6 => ?_⟩
            obtain ⟨f3, f4⟩ := x6.fr D _ f2 (fun _ z => by cases z) f1
            split at p6
            · rename_i hl
              have l2 := rv2.length
              refine ⟨us, f4, by rw [← l2]; exact line_lt hl, n, Nat.lt_succ_self n, m6, h6, acc ++ [xc], us ++ [yv], (((y3.trans x4).trans x5).trans x6).put hD f4, rl6.put f4 f3, upd_same, f3, ?_, p6⟩
              exact (RVs.append (rv2.ext (((x3.trans x4).trans x5).trans x6)) (RVs.one rv6)).xw (Xw.put f4)
            · exact False.elim p6
theorem sE_comp {fi : Sl → Hc → R ItV} {fg : C → Sl → Hc → R Sl} {ft : Sl → Hc → R Bool} {fe : Sl → Hc → R C} {w : Nat} (hc : X.calm = true) (hN : X.N.Nodup) (hi : PI X tg iter (tI et X.K W fi)) (ok : BlkOk X.N X.env.scope scope own)
    (hg : ∀ (s : Shared) (H : Hp) (C : Addr) (cl : List (Str × Addr)) (fp : List Addr), PG (X.blk s H scope (compEnvC scope cl C X.env) fp) tg (tGv et X.K (own.map (·.2)) fg))
    (ht : ∀ (s : Shared) (H : Hp) (C : Addr) (cl : List (Str × Addr)) (fp : List Addr), PTs (X.blk s H scope (compEnvC scope cl C X.env) fp) ifs (tT et X.K NoX ft))
    (he : ∀ (s : Shared) (H : Hp) (C : Addr) (cl : List (Str × Addr)) (fp : List Addr), PE (X.blk s H scope (compEnvC scope cl C X.env) fp) elt (tE et X.K NoX fe)) (hs : ∀ x, foldedSetIterable iter X.env x = pure x) :
    PE X (.ListComp elt [⟨tg, iter, ifs, 0⟩] scope pos) (tE et X.K W fun sl h => (fi sl h).bind fun v h1 => (compF v fg ft fe w 0 (wipeC sl (own.map (·.2))) [] h1).noerr.bind fun xs h2 => .ok (.ref h2.length) (h2 ++ [xs])) :=
  (pe_lc hc hN hi ok hg ht he hs).imp fun σ H Q p => lc_read p
end
end Sh
set_option Elab.async false
set_option linter.all false
set_option autoImplicit false
set_option maxRecDepth 100000
set_option maxHeartbeats 8000000
/-! Sh, part H: every matched expression does what the plain one tells. -/
namespace Sh
open PySem PySem.Spec PyProof.Rows L2
section
variable {cf : Cfg} {et : ETab} {call : Nat → List C → Hc → R C} {sub : Nat → Str → Option Bool} {w : Nat} {k : Nat} {X : Cx} {W : WX}
theorem boot_bi (b : Bi) (h : b ≠ .gcd) : bootBuiltins (biName b) = some (biVal b) := by
  cases b <;> first | exact absurd rfl h | decide +kernel
theorem boot_ty (t : Ty) : bootBuiltins (Str.ofString t.name) = some (.type t.name) := by
  cases t <;> decide +kernel
theorem len_es : ∀ {es : Es} {l : List Expr}, mEs es cf l = true → l.length = es.len
  | .nil, l, h => by
    cases l with
    | nil => rfl
    | cons _ _ => cases h
  | .cons a es, l, h => by
    cases l with
    | nil => cases h
    | cons x l =>
      obtain ⟨h1, h2⟩ := two h
      obtain ⟨h2, h3⟩ := two h2
      show l.length + 1 = es.len + 1
      rw [len_es h3]
theorem len_ks : ∀ {es : Es} {l : List Keyword}, mKs es cf l = true → l.length = es.len
  | .nil, l, h => by
    cases l with
    | nil => rfl
    | cons _ _ => cases h
  | .cons a es, l, h => by
    cases l with
    | nil => cases h
    | cons x l =>
      obtain ⟨h1, h2⟩ := two h
      show l.length + 1 = es.len + 1
      rw [len_ks h2]
theorem fn_get {f : Nat} {x : Str} (h : decide ((cf.fn[f]?).map (·.1) = some x) = true) : ∃ ps, cf.fn[f]? = some (x, ps) := by
  have h' := of_decide_eq_true h
  cases e : cf.fn[f]? with
  | none => rw [e] at h'; cases h'
  | some q =>
    rw [e] at h'
    obtain ⟨y, ps⟩ := q
    have h2 : some y = some x := h'
    cases h2
    exact ⟨ps, rfl⟩
theorem sE_bi_all (g : Good cf et call k X W) {b : Bi} {x : Str} {p pos : Pos} {e : Expr} {es : List Expr} {fs : Sl → Hc → R (List C)} (hx : x = biName b) (hf : biB cf b x = true) (hA : PA X (e :: es) (tA et X.K W fs))
    (s1 : starEach (e :: es) X.env = (false, eval e X.env) :: starEach es X.env) (s2 : (backTo pos (starEach es X.env)).any (·.1) = false) :
    PE X (.Call (.Name x p) (e :: es) [] pos) (tE et X.K W fun sl h => (fs sl h).bind fun xs h1 => bi b xs h1) := by
  subst hx
  refine sE_bi b rfl (.inl g.calm) g.gu g.units hA fun r hr => ?_
  have blt : ∀ id, b ≠ .gcd → biVal b = .builtin id → PE X (.Call (.Name (biName b) p) (e :: es) [] pos) (tCB r (tA et X.K W fs)) := fun id hb hv => by
    have hf' : freeB cf (biName b) = true := by cases b <;> first | exact absurd rfl hb | exact hf
    obtain ⟨f1, f2, f3, f4⟩ := g.free hf'
    rw [hv] at hr
    exact pe_callB hr f1 f2 (by rw [boot_bi b hb, hv]) hA f4 f3 s1 s2
  have ty : ∀ id, b ≠ .gcd → biVal b = .type id → PE X (.Call (.Name (biName b) p) (e :: es) [] pos) (tCB r (tA et X.K W fs)) := fun id hb hv => by
    have hf' : freeB cf (biName b) = true := by cases b <;> first | exact absurd rfl hb | exact hf
    obtain ⟨f1, f2, f3, f4⟩ := g.free hf'
    rw [hv] at hr
    exact pe_callTy hr f1 f2 (by rw [boot_bi b hb, hv]) hA f4 f3 s1 s2
  have ng : ∀ {c : Bi}, c = .gcd ∨ c ≠ .gcd := fun {c} => by cases c <;> first | exact .inl rfl | exact .inr (by intro z; cases z)
  cases b with
  | gcd =>
    obtain ⟨h1, h2⟩ := two hf
    obtain ⟨f1, f2, f3⟩ := g.gl h1
    exact pe_callBfun hr f1 (g.gcd h2) hA f2 s1 s2
  | len => exact blt _ (by intro z; cases z) rfl
  | abs => exact blt _ (by intro z; cases z) rfl
  | max2 => exact blt _ (by intro z; cases z) rfl
  | min2 => exact blt _ (by intro z; cases z) rfl
  | sum => exact blt _ (by intro z; cases z) rfl
  | divmod => exact blt _ (by intro z; cases z) rfl
  | repr => exact blt _ (by intro z; cases z) rfl
  | tuple => exact ty _ (by intro z; cases z) rfl
  | list => exact ty _ (by intro z; cases z) rfl
  | maxL => exact blt _ (by intro z; cases z) rfl
  | minL => exact blt _ (by intro z; cases z) rfl
  | int => exact ty _ (by intro z; cases z) rfl
  | bool => exact ty _ (by intro z; cases z) rfl
  | all => exact blt _ (by intro z; cases z) rfl
  | sorted => exact blt _ (by intro z; cases z) rfl
  | any => exact blt _ (by intro z; cases z) rfl

theorem sE_ind {l : Expr} {x : Str} {p pos : Pos} {d : Addr} {es : Array DictEntry} {n : Nat} {ks : List Str} {fa : Sl → Hc → R C} (neg : Bool) (hg : Gl X x) (hm : X.mg x = some (.ref d)) (hd : (x == ("__debug__" : Str)) = false) (D : KDict X.K X.w d es n)
    (hk : ∀ z, ∃ r, PySem.W.nsIn X.K d z = some r ∧ r.isSome = ks.contains z) (hb : behindInMarks (if neg then .NotIn else .In) (.Name x p) = false) (ha : PE X l (tE et X.K W fa)) :
    PE X (.Compare l [if neg then .NotIn else .In] [.Name x p] pos) (tE et X.K W fun sl h => (fa sl h).bind fun x h1 => match x with
      | .str z => .ok (.bl (if neg then !(ks.contains z) else ks.contains z)) h1
      | _ => .bad) := by
  have hn : PE X (.Name x p) (tC (.ref d)) := pe_glob hg hm rfl hd
  cases neg with
  | false =>
    refine (pe_cmpR (op_in_kd D) ha hn hb).imp fun σ H Q ⟨m, sl, h, rl, rs, q⟩ => ⟨m, sl, h, rl, rs, q.bind fun c h1 e1 m1 H1 v x1 rl1 rv1 p1 => ?_⟩
    cases c <;> try (exact False.elim p1)
    rename_i z
    cases rv1
    obtain ⟨r, k1, k2⟩ := hk z
    exact ⟨z, r, rfl, rfl, k1, by rw [k2]; exact p1 m1 H1 _ Ext.refl rl1 rfl⟩
  | true =>
    refine (pe_cmpR (op_notIn_kd D) ha hn hb).imp fun σ H Q ⟨m, sl, h, rl, rs, q⟩ => ⟨m, sl, h, rl, rs, q.bind fun c h1 e1 m1 H1 v x1 rl1 rv1 p1 => ?_⟩
    cases c <;> try (exact False.elim p1)
    rename_i z
    cases rv1
    obtain ⟨r, k1, k2⟩ := hk z
    exact ⟨z, r, rfl, rfl, k1, by rw [k2]; exact p1 m1 H1 _ Ext.refl rl1 rfl⟩
theorem sE_inr {l e : Expr} {es : List Expr} {x : Str} {p pos pos2 : Pos} {fa : Sl → Hc → R C} {fs : Sl → Hc → R (List C)} (neg : Bool) (hg : Gl X x) (hm : X.mg x = none) (hx : x = "range") (h4 : x ≠ "__name__") (hd : (x == ("__debug__" : Str)) = false)
    (hA : PA X (e :: es) (tA et X.K W fs)) (s1 : starEach (e :: es) X.env = (false, eval e X.env) :: starEach es X.env) (s2 : (backTo pos2 (starEach es X.env)).any (·.1) = false)
    (hb : behindInMarks (if neg then .NotIn else .In) (.Call (.Name x p) (e :: es) [] pos2) = false) (ha : PE X l (tE et X.K W fa)) :
    PE X (.Compare l [if neg then .NotIn else .In] [.Call (.Name x p) (e :: es) [] pos2] pos) (tE et X.K W fun sl h => (fa sl h).bind fun x h1 => (fs sl h1).bind fun ys h2 => inRng neg x ys h2) := by
  have hv : bootBuiltins x = some (.type "range") := by subst hx; decide +kernel
  have hn := pe_callTy (pos := pos2) (p := p) cr_range2 hg hm hv hA h4 hd s1 s2
  have key : ∀ (m : List Addr) (H : Hp) (h : Hc) (c : C) (ys : List C) (v : V) (us : List V) (Q : VK), Rl X.K m h H → RV X.K m H c v → RVs X.K m H ys us → ∀ {Wx : Value → Option Addr → Hp → Prop}, Post et X.K Wx m H (relV X.K) Q (inRng neg c ys h) →
      ∃ i lo hi, v = .int i ∧ us = [V.int lo, V.int hi] ∧ ∀ p', H p' = none → Q (.bl (if neg then !(decide (lo ≤ i ∧ i < hi)) else decide (lo ≤ i ∧ i < hi))) (upd H p' (.rng lo hi)) := by
    intro m H h c ys v us Q rl rv ru Wx q
    unfold inRng at q
    split at q
    · rename_i i lo hi
      obtain ⟨v1, r1, rfl, k1, k2⟩ := ru
      obtain ⟨v2, r2, rfl, k3, k4⟩ := k2
      cases k4
      cases rv
      cases k1
      cases k3
      exact ⟨i, lo, hi, rfl, rfl, fun p' hp => q m _ _ (Ext.new hp) (rl.new hp) rfl⟩
    · exact False.elim q
  cases neg with
  | false =>
    refine (pe_cmpR op_in_rng ha hn hb).imp fun σ H Q ⟨m, sl, h, rl, rs, q⟩ => ⟨m, sl, h, rl, rs, q.bind fun c h1 e1 m1 H1 v x1 rl1 rv1 p1 => ⟨m1, sl, h1, rl1, rs.ext x1, p1.bind fun ys h2 e2 m2 H2 us x2 rl2 rv2 p2 => ?_⟩⟩
    obtain ⟨i, lo, hi, rfl, rfl, k⟩ := key m2 H2 h2 c ys v us Q rl2 (RV.ext x2 rv1) rv2 p2
    exact ⟨lo, hi, rfl, fun p' hp => ⟨i, p', lo, hi, rfl, rfl, upd_same, k p' hp⟩⟩
  | true =>
    refine (pe_cmpR op_notIn_rng ha hn hb).imp fun σ H Q ⟨m, sl, h, rl, rs, q⟩ => ⟨m, sl, h, rl, rs, q.bind fun c h1 e1 m1 H1 v x1 rl1 rv1 p1 => ⟨m1, sl, h1, rl1, rs.ext x1, p1.bind fun ys h2 e2 m2 H2 us x2 rl2 rv2 p2 => ?_⟩⟩
    obtain ⟨i, lo, hi, rfl, rfl, k⟩ := key m2 H2 h2 c ys v us Q rl2 (RV.ext x2 rv1) rv2 p2
    exact ⟨lo, hi, rfl, fun p' hp => ⟨i, p', lo, hi, rfl, rfl, upd_same, k p' hp⟩⟩
theorem sT_inr {l e : Expr} {es : List Expr} {x : Str} {p pos pos2 : Pos} {fa : Sl → Hc → R C} {fs : Sl → Hc → R (List C)} (neg : Bool) (hg : Gl X x) (hm : X.mg x = none) (hx : x = "range") (h4 : x ≠ "__name__") (hd : (x == ("__debug__" : Str)) = false)
    (hA : PA X (e :: es) (tA et X.K W fs)) (s1 : starEach (e :: es) X.env = (false, eval e X.env) :: starEach es X.env) (s2 : (backTo pos2 (starEach es X.env)).any (·.1) = false)
    (hb : behindInMarks (if neg then .NotIn else .In) (.Call (.Name x p) (e :: es) [] pos2) = false) (ha : PE X l (tE et X.K W fa)) :
    PT X (.Compare l [if neg then .NotIn else .In] [.Call (.Name x p) (e :: es) [] pos2] pos) (tT et X.K W fun sl h => (fa sl h).bind fun x h1 => (fs sl h1).bind fun ys h2 => inRngB neg x ys h2) := by
  have hv : bootBuiltins x = some (.type "range") := by subst hx; decide +kernel
  have hn := pe_callTy (pos := pos2) (p := p) cr_range2 hg hm hv hA h4 hd s1 s2
  have key : ∀ (m : List Addr) (H : Hp) (h : Hc) (c : C) (ys : List C) (v : V) (us : List V) (Q : Bool → Hp → Prop), Rl X.K m h H → RV X.K m H c v → RVs X.K m H ys us → ∀ {Wx : Value → Option Addr → Hp → Prop}, Post et X.K Wx m H relB Q (inRngB neg c ys h) →
      ∃ i lo hi, v = .int i ∧ us = [V.int lo, V.int hi] ∧ ∀ p', H p' = none → Q (if neg then !(decide (lo ≤ i ∧ i < hi)) else decide (lo ≤ i ∧ i < hi)) (upd H p' (.rng lo hi)) := by
    intro m H h c ys v us Q rl rv ru Wx q
    unfold inRngB at q
    split at q
    · rename_i i lo hi
      obtain ⟨v1, r1, rfl, k1, k2⟩ := ru
      obtain ⟨v2, r2, rfl, k3, k4⟩ := k2
      cases k4
      cases rv
      cases k1
      cases k3
      exact ⟨i, lo, hi, rfl, rfl, fun p' hp => q m _ _ (Ext.new hp) (rl.new hp) rfl⟩
    · exact False.elim q
  cases neg with
  | false =>
    refine (pt_cmpR op_in_rng ha hn hb).imp fun σ H Q ⟨m, sl, h, rl, rs, q⟩ => ⟨m, sl, h, rl, rs, q.bind fun c h1 e1 m1 H1 v x1 rl1 rv1 p1 => ⟨m1, sl, h1, rl1, rs.ext x1, p1.bind fun ys h2 e2 m2 H2 us x2 rl2 rv2 p2 => ?_⟩⟩
    obtain ⟨i, lo, hi, rfl, rfl, k⟩ := key m2 H2 h2 c ys v us Q rl2 (RV.ext x2 rv1) rv2 p2
    exact ⟨lo, hi, rfl, fun p' hp => ⟨i, p', lo, hi, rfl, rfl, upd_same, _, rfl, k p' hp⟩⟩
  | true =>
    refine (pt_cmpR op_notIn_rng ha hn hb).imp fun σ H Q ⟨m, sl, h, rl, rs, q⟩ => ⟨m, sl, h, rl, rs, q.bind fun c h1 e1 m1 H1 v x1 rl1 rv1 p1 => ⟨m1, sl, h1, rl1, rs.ext x1, p1.bind fun ys h2 e2 m2 H2 us x2 rl2 rv2 p2 => ?_⟩⟩
    obtain ⟨i, lo, hi, rfl, rfl, k⟩ := key m2 H2 h2 c ys v us Q rl2 (RV.ext x2 rv1) rv2 p2
    exact ⟨lo, hi, rfl, fun p' hp => ⟨i, p', lo, hi, rfl, rfl, upd_same, _, rfl, k p' hp⟩⟩
theorem bool_tail {op : BoolOp} {p : Pos} {m : Expr → Bool} {l : List Expr} {t : TE} (h : andTail m op p l = true) (ih : ∀ e, m e = true → PE X e t) : ∃ y r, l = y :: r ∧ PE X (.BoolOp op (y :: r) p) t := by
  match l, h with
  | [], h => cases h
  | [y], h => exact ⟨y, [], rfl, pe_one (ih y h)⟩
  | y :: z :: r, h => exact ⟨y, z :: r, rfl, ih _ h⟩
/-- a test that is an and, an or of tests, is so whatever its whole is -/
def PTW (X : Cx) (e : Expr) (t : TT) : Prop := PT X e t ∧ ∀ op l p, e = .BoolOp op l p → PW X e t
theorem test_tail {op : BoolOp} {p : Pos} {m : Expr → Bool} {l : List Expr} {t : TT} (h : andTail m op p l = true) (ih : ∀ e, m e = true → PTW X e t) : ∃ y r, l = y :: r ∧ PW X (.BoolOp op (y :: r) p) t := by
  match l, h with
  | [], h => cases h
  | [y], h =>
    refine ⟨y, [], rfl, ?_⟩
    cases op with
    | And => exact pw_and1 (ih y h).1
    | Or => exact pw_or1 (ih y h).1
  | y :: z :: r, h => exact ⟨y, z :: r, rfl, (ih _ h).2 _ _ _ rfl⟩

end
/-! ### the block of a comprehension -/
section
variable {cf : Cfg} {et : ETab} {call : Nat → List C → Hc → R C} {sub : Nat → Str → Option Bool} {w : Nat} {k : Nat} {X : Cx} {W : WX}
theorem blk_kind (g : Good cf et call k X W) (scope : Scope) (cl : List (Str × Addr)) (C' : Addr) (y : Str) : (compEnvC scope cl C' X.env).kindOf y = blkKind cf scope y := by
  show (scope.names.map fun (n, k) => if (k == NameKind.free && X.env.scope.kind == .function && X.env.kindOf n == some .cell) then (n, NameKind.cell) else (n, k)).lookup y = _
  unfold blkKind
  rw [← g.kind y]
  have sk : (X.env.scope.kind == .function) = true := by rw [g.sk]; rfl
  induction scope.names with
  | nil => rfl
  | cons p l ih =>
    obtain ⟨n, kd⟩ := p
    show List.lookup y ((if (kd == NameKind.free && X.env.scope.kind == .function && X.env.kindOf n == some .cell) = true then (n, NameKind.cell) else (n, kd)) :: _) = match List.lookup y ((n, kd) :: l) with
      | some .free => if X.env.kindOf y == some .cell then some .cell else some .free
      | r => r
    by_cases hn : y = n
    · subst hn
      rw [sk, Bool.and_true]
      have l1 : ∀ k r, List.lookup y ((y, k) :: r : List (Str × NameKind)) = some k := fun k r => by simp [List.lookup]
      rw [l1]
      cases hc : (X.env.kindOf y == some NameKind.cell) with
      | true =>
        cases kd <;> first | exact l1 _ _ | rfl
      | false =>
        rw [Bool.and_false, if_neg Bool.false_ne_true, l1]
        cases kd <;> rfl
    · have hb : (y == n) = false := by simpa using hn
      have l2 : ∀ k r, List.lookup y ((n, k) :: r : List (Str × NameKind)) = List.lookup y r := fun k r => by rw [List.lookup_cons, hb]
      rw [l2]
      cases hc : (kd == NameKind.free && X.env.scope.kind == .function && X.env.kindOf n == some .cell) with
      | true => rw [if_pos rfl, l2]; exact ih
      | false => rw [if_neg Bool.false_ne_true, l2]; exact ih
theorem good_blk (g : Good cf et call k X W) {scope : Scope} (hk : scope.kind = .function) (s : Shared) (H : Hp) (C' : Addr) (cl : List (Str × Addr)) (fp : List Addr) : Good (cf.blk scope) et call k (X.blk s H scope (compEnvC scope cl C' X.env) fp) NoX := by
  refine ⟨g.N, g.nd, fun x => blk_kind g scope cl C' x, fun x hx => ⟨hx, ?_⟩, hk, g.calm, g.room, g.gu, fun _ _ x => ?_, g.bn, g.gcd, g.kd, g.con, g.fn⟩
  · have hx : scope.names.lookup x = some .cell := beq_iff_eq.mp hx
    show blkKind cf scope x = _
    unfold blkKind
    rw [hx]
  · obtain ⟨_, _, _, _, _, _, _, _, _, _, _, _, _, _, _, _, z⟩ := x
    exact z.elim
theorem blk_ok (g : Good cf et call k X W) {scope : Scope} {vs : List Nat} (h : blkB cf scope vs = true) : BlkOk X.N X.env.scope scope (ownOf cf vs) ∧ (ownOf cf vs).map (·.2) = vs := by
  obtain ⟨h, h5⟩ := two h
  obtain ⟨h, h4⟩ := two h
  obtain ⟨h, h3⟩ := two h
  obtain ⟨h1, h2⟩ := two h
  refine ⟨⟨beq_iff_eq.mp h1, fun y hy => beq_iff_eq.mp (List.all_eq_true.mp h2 y hy), fun p hp => ?_, fun y hy e => ?_, fun y hy e => ?_⟩, ?_⟩
  · obtain ⟨i, hi, rfl⟩ := List.mem_map.mp hp
    have hl : i < cf.N.length := of_decide_eq_true (List.all_eq_true.mp h3 i hi)
    rw [g.N]
    show cf.N[i]? = some (cf.N.getD i "")
    rw [List.getD_eq_getElem?_getD, List.getElem?_eq_getElem hl]
    rfl
  · have := List.all_eq_true.mp h4 y hy
    rw [e] at this
    have this : (cf.kind y.1 == some .cell || cf.kind y.1 == some .free) = true := by simpa using this
    rw [← g.kind y.1] at this
    rcases Bool.or_eq_true_iff.mp this with z | z
    · exact .inl (beq_iff_eq.mp z)
    · exact .inr (beq_iff_eq.mp z)
  · have := List.all_eq_true.mp h5 y hy
    have hk : (y.2 == NameKind.local || y.2 == NameKind.cell) = true := by
      rcases e with e | e <;> rw [e] <;> rfl
    rw [hk] at this
    have this : (((ownOf cf vs).map (·.1)).contains y.1 || !(cf.N.contains y.1)) = true := this
    rcases Bool.or_eq_true_iff.mp this with z | z
    · exact .inl (List.contains_iff_mem.mp z)
    · refine .inr fun hm => ?_
      rw [g.N] at hm
      rw [List.contains_iff_mem.mpr hm] at z
      cases z
  · unfold ownOf
    rw [List.map_map]
    exact List.map_id _
def tGvs (et : ETab) (K : PySem.W.Frag) (vs : List Nat) (f : List C → Sl → Hc → R Sl) : TGs := fun us σ H Q => ∃ m sl h cs, Rl K m h H ∧ RS K m H sl σ ∧ RVs K m H cs us ∧ Post et K (fun _ _ _ => False) m H (fun m' H' sl' σ' => RS K m' H' sl' σ' ∧ L2.wipe σ' vs = L2.wipe σ vs) Q (f cs sl h)
theorem flats_ok (g : Good cf et call k X W) {vs : List Nat} : ∀ (ps : Pts) (l : List Expr), flatPs ps = true → (∀ i ∈ ps.slots, i ∈ vs) → mPs ps cf l = true → PGs X l (tGvs et X.K vs (Pts.put call sub w none ps))
  | .nil, l, hf, hv, h => by
    cases l with
    | cons _ _ => cases h
    | nil =>
      refine ⟨fun pins s σ H us ws Q I r ⟨m, sl, hh, cs, rl, rs, rv, p⟩ => pgs_nil.run pins s σ H us ws Q I r ?_⟩
      cases cs with
      | nil =>
        cases rv
        exact ⟨rfl, p m H σ Ext.refl rl ⟨rs, rfl⟩⟩
      | cons _ _ => exact False.elim p
  | .cons (.v i) ps, l, hf, hv, h => by
    cases l with
    | nil => cases h
    | cons x l =>
      obtain ⟨h1, h2⟩ := two h
      obtain ⟨h2, h3⟩ := two h2
      cases x <;> try (cases h2; done)
      rename_i x pos
      obtain ⟨q1, q2, q3, q4⟩ := g.loc h2
      have hi : i ∈ vs := hv i (List.mem_append_left _ List.mem_cons_self)
      have ih := flats_ok g ps l hf (fun j hj => hv j (List.mem_append_right _ hj)) h3
      refine ⟨fun pins s σ H us ws Q I r ⟨m, sl, hh, cs, rl, rs, rv, p⟩ => (pgs_cons (pg_name q4 q1 q2 q3) ih (by rw [asg_of h1]; rfl)).run pins s σ H us ws Q I r ?_⟩
      cases cs with
      | nil => exact False.elim p
      | cons c cs =>
        obtain ⟨v, t, rfl, r1, r2⟩ := rv
        refine ⟨v, t, rfl, m, sl.set i (some c), hh, cs, rl, rs.set i r1, r2, ?_⟩
        have p : Post et X.K (fun _ _ _ => False) m H (fun m' H' sl' σ' => RS X.K m' H' sl' σ' ∧ L2.wipe σ' vs = L2.wipe σ vs) Q (Pts.put call sub w none ps cs (sl.set i (some c)) hh) := p
        rw [show L2.wipe (σ.set i (some v)) vs = L2.wipe σ vs from wipe_set hi]
        exact p
  | .cons (.sub _ _) ps, l, hf, hv, h => by cases hf
  | .cons (.tup _) ps, l, hf, hv, h => by cases hf
theorem flat_ok (g : Good cf et call k X W) {vs : List Nat} : ∀ (p : Pt) (e : Expr), flatP p = true → (∀ i ∈ p.slots, i ∈ vs) → mP p cf e = true → PG X e (tGv et X.K vs (Pt.put call sub w none p))
  | .v i, e, hf, hv, h => by
    cases e <;> try (cases h; done)
    rename_i x pos
    obtain ⟨q1, q2, q3, q4⟩ := g.loc h
    refine ⟨fun pins s σ H v u Q I r ⟨m, sl, hh, c, rl, rs, rv, p⟩ => (pg_name q4 q1 q2 q3).run pins s σ H v u Q I r ?_⟩
    exact p m H (σ.set i (some v)) Ext.refl rl ⟨rs.set i rv, wipe_set (hv i List.mem_cons_self)⟩
  | .sub _ _, e, hf, hv, h => by cases hf
  | .tup ps, e, hf, hv, h => by
    cases e <;> try (cases h; done)
    rename_i l kk pos
    have ih := flats_ok g (vs := vs) (sub := sub) (w := w) ps l hf hv h
    obtain ⟨q1, q2⟩ := asg_len (env := X.env) h
    refine ⟨fun pins s σ H v u Q I r ⟨m, sl, hh, c, rl, rs, rv, p⟩ => (pg_tup (n := l.length) g.calm ih q1 q2).run pins s σ H v u Q I r ?_⟩
    cases c <;> try (exact False.elim p)
    rename_i cs
    obtain ⟨a, us, rfl, e2, e3⟩ := rv
    have p : Post et X.K (fun _ _ _ => False) m H (fun m' H' sl' σ' => RS X.K m' H' sl' σ' ∧ L2.wipe σ' vs = L2.wipe σ vs) Q (if cs.length = ps.len then Pts.put call sub w none ps cs sl hh else .bad) := p
    split at p
    · rename_i hl
      exact ⟨a, us, rfl, e2, by rw [← e3.length, len_ps h]; exact hl, m, sl, hh, cs, rl, rs, e3, p⟩
    · exact p.elim
theorem base_of {o : Expr} {n : Str} {env : Env} {wh : Sem Value} (h : isName o = true) : attributeBase o n env wh = wh := by
  cases o <;> first | rfl | cases h
theorem RVs.dropLast {K : PySem.W.Frag} {m : List Addr} {H : Hp} {cs : List C} {vs : List V} (q : RVs K m H cs vs) : RVs K m H cs.dropLast vs.dropLast := by
  rw [List.dropLast_eq_take, List.dropLast_eq_take, ← q.length]
  exact RVs.take _ q
theorem sE_pop {o : Expr} {apos cpos : Pos} {fa : Sl → Hc → R C} (hb : attributeBase o "pop" X.env (eval o X.env) = eval o X.env) (hl : (apos.endLine == cpos.line) = true) (ha : PE X o (tE et X.K W fa)) :
    PE X (.Call (.Attribute o "pop" apos) [] [] cpos) (tE et X.K W fun sl h => (fa sl h).bind fun x h1 => match x with
      | .ref n => match h1[n]? with
        | some xs => match xs[xs.length - 1]? with
          | some c => .ok c (h1.set n xs.dropLast)
          | none => .bad
        | none => .bad
      | _ => .bad) := by
  refine (pe_bm0 PySem.F.plainAttrs_list PySem.F.slot_list_pop PySem.F.type_list_pop mt_pop ha hb hl).imp fun σ H Q ⟨m, sl, h, rl, rs, p⟩ => ⟨m, sl, h, rl, rs, p.bind fun x h1 e1 m1 H1 v x1 rl1 rv1 p1 => ?_⟩
  cases x <;> try (exact False.elim p1)
  rename_i n
  obtain ⟨a, q1, rfl, qL⟩ := rv1
  obtain ⟨cs, vs, e2, q2, q3⟩ := rl1.get q1 qL
  dsimp only at p1
  rw [e2] at p1
  dsimp only at p1
  cases e3 : cs[cs.length - 1]? with
  | none => rw [e3] at p1; exact False.elim p1
  | some c =>
    rw [e3] at p1
    obtain ⟨w, w1, w2⟩ := q3.get e3
    refine ⟨.inl ⟨rfl, vs, SqL.of q2⟩, a, vs, w, rfl, rfl, q2, by rw [← q3.length]; exact w1, ?_⟩
    have ex : Ext X.K m1 H1 m1 (upd H1 a (.lst vs.dropLast)) := Ext.write (List.mem_of_getElem? q1) q2
    exact p1 m1 _ w ex (rl1.write q1 q2 q3.dropLast) (RV.ext ex w2)
theorem RVs.rev {K : PySem.W.Frag} {m : List Addr} {H : Hp} {cs : List C} {vs : List V} (q : RVs K m H cs vs) : RVs K m H cs.reverse vs.reverse := RVs.reverse q
theorem sE_revs {l : Expr} {kk : Nat} {p1 p2 p3 pos : Pos} {fa : Sl → Hc → R C} (ha : PE X l (tE et X.K W fa)) :
    PE X (.Subscript l (.Slice none none (some (.UnaryOp .USub (.Constant (.int 1) kk p1) p2)) p3) pos) (tE et X.K W fun sl h => (fa sl h).bind fun x h1 => match x with
      | .ref n => match h1[n]? with
        | some cs => .ok (.ref h1.length) (h1 ++ [cs.reverse])
        | none => .bad
      | .frz cs => .ok (.ref h1.length) (h1 ++ [cs.reverse])
      | _ => .bad) := by
  refine (pe_revL ha).imp fun σ H Q ⟨m, sl, h, rl, rs, p⟩ => ⟨m, sl, h, rl, rs, p.bind fun x h1 e1 m1 H1 v x1 rl1 rv1 p1 => ?_⟩
  cases x <;> try (exact False.elim p1)
  · rename_i n
    obtain ⟨a, q1, rfl, qL⟩ := rv1
    obtain ⟨cs, vs, e2, q2, q3⟩ := rl1.get q1 qL
    dsimp only at p1
    rw [e2] at p1
    exact ⟨a, vs, rfl, SqL.of q2, fun p' hp => p1 _ _ _ (Ext.newL hp) (rl1.newL hp q3.reverse) (lst_laid rl1)⟩
  · rename_i cs
    obtain ⟨a, vs, rfl, e2, e3⟩ := rv1
    exact ⟨a, vs, rfl, e2.sq, fun p' hp => p1 _ _ _ (Ext.newL hp) (rl1.newL hp e3.reverse) (lst_laid rl1)⟩
theorem jr_revl {m : List Addr} {H : Hp} {n kk : Nat} {a : Addr} (hm : m[n]? = some a) (hL : IsL H a) : JRel X.K m H (.revl n kk) (Itv X.K a kk) := by
  intro i m' h' H' e rl
  have hm' := e.pre _ _ hm
  obtain ⟨cs, vs, hc, hv, rv⟩ := rl.get hm' (e.kl _ hL)
  have at_ : ItV.at_ (.revl n kk) i h' = if i < kk then (match cs[kk - 1 - i]? with
      | some c => some (some c)
      | none => none) else some none := by
    show (if i < kk then (match h'[n]? with
      | some cs => (match cs[kk - 1 - i]? with
        | some c => some (some c)
        | none => none)
      | none => none) else some none) = _
    rw [hc]
  rw [at_]
  by_cases hi : i < kk
  · rw [if_pos hi]
    cases e1 : cs[kk - 1 - i]? with
    | none => exact ⟨fun z => (by cases z), fun c z => (by cases z)⟩
    | some c0 =>
      refine ⟨fun z => (by cases z), fun c z => ?_⟩
      cases z
      obtain ⟨w, w1, w2⟩ := rv.get e1
      refine ⟨⟨hi, vs, w, SqL.of hv, w1⟩, fun x H2 y => ?_⟩
      obtain ⟨rfl, y⟩ := y
      have := (y vs (SqL.of hv)).symm.trans w1
      cases this
      exact ⟨m', Ext.refl, rl, w2⟩
  · rw [if_neg hi]
    exact ⟨fun _ => Nat.le_of_not_lt hi, fun c z => (by cases z)⟩
theorem jr_revt {m : List Addr} {H : Hp} {cs : List C} {vs : List V} {a : Addr} (ht : SqT X.K H a vs) (rv : RVs X.K m H cs vs) : JRel X.K m H (.revt cs) (RT.ItvT X.K a vs.length) := by
  intro i m' h' H' e rl
  have ht' := e.tu _ _ ht
  have rv' := rv.ext e
  have hl := rv.length
  have at_ : ItV.at_ (.revt cs) i h' = if i < cs.length then (match cs[cs.length - 1 - i]? with
      | some c => some (some c)
      | none => none) else some none := rfl
  rw [at_]
  by_cases hi : i < cs.length
  · rw [if_pos hi]
    cases e1 : cs[cs.length - 1 - i]? with
    | none => exact ⟨fun z => (by cases z), fun c z => (by cases z)⟩
    | some c0 =>
      refine ⟨fun z => (by cases z), fun c z => ?_⟩
      cases z
      obtain ⟨w, w1, w2⟩ := rv'.get e1
      rw [hl] at w1
      refine ⟨⟨by rw [← hl]; exact hi, vs, w, ht', w1⟩, fun x H2 y => ?_⟩
      obtain ⟨rfl, y⟩ := y
      have := (y vs ht').symm.trans w1
      cases this
      exact ⟨m', Ext.refl, rl, w2⟩
  · rw [if_neg hi]
    exact ⟨fun _ => (by rw [← hl]; exact Nat.le_of_not_lt hi : vs.length ≤ i), fun c z => (by cases z)⟩
theorem jr_enl {m : List Addr} {H : Hp} {n : Nat} {a : Addr} (hm : m[n]? = some a) (hL : IsL H a) : JRel X.K m H (.enl n) (Ite X.K a) := by
  intro i m' h' H' e rl
  have hm' := e.pre _ _ hm
  obtain ⟨cs, vs, hc, hv, rv⟩ := rl.get hm' (e.kl _ hL)
  have at_ : ItV.at_ (.enl n) i h' = some (match cs[i]? with
      | some c => some (.tup [.int i, c])
      | none => none) := by
    show (match h'[n]? with
      | some cs => some (match cs[i]? with
        | some c => some (C.tup [.int i, c])
        | none => none)
      | none => none) = _
    rw [hc]
  rw [at_]
  cases e1 : cs[i]? with
  | none =>
    refine ⟨fun _ => ⟨vs, SqL.of hv, by rw [← rv.length]; exact List.getElem?_eq_none_iff.mp e1⟩, fun c z => (by cases z)⟩
  | some c0 =>
    refine ⟨fun z => (by cases z), fun c z => ?_⟩
    cases z
    obtain ⟨w, w1, w2⟩ := rv.get e1
    refine ⟨⟨vs, w, SqL.of hv, w1⟩, fun x H2 y => ?_⟩
    obtain ⟨T, x0, rfl, hT, rfl, y⟩ := y
    have := (y vs (SqL.of hv)).symm.trans w1
    cases this
    refine ⟨m', Ext.new hT, rl.new hT, tup_laid ?_ hT⟩
    exact ⟨.int i, [_], rfl, rfl, RVs.one w2⟩
theorem jr_ent {m : List Addr} {H : Hp} {cs : List C} {vs : List V} {a : Addr} (ht : SqT X.K H a vs) (rv : RVs X.K m H cs vs) : JRel X.K m H (.ent cs) (Iten X.K a vs.length) := by
  intro i m' h' H' e rl
  have ht' := e.tu _ _ ht
  have rv' := rv.ext e
  have hl := rv.length
  have at_ : ItV.at_ (.ent cs) i h' = some (match cs[i]? with
      | some c => some (.tup [.int i, c])
      | none => none) := rfl
  rw [at_]
  cases e1 : cs[i]? with
  | none =>
    refine ⟨fun _ => ⟨vs, ht', rfl, by rw [← hl]; exact List.getElem?_eq_none_iff.mp e1⟩, fun c z => (by cases z)⟩
  | some c0 =>
    refine ⟨fun z => (by cases z), fun c z => ?_⟩
    cases z
    obtain ⟨w, w1, w2⟩ := rv'.get e1
    refine ⟨⟨by rw [← hl]; exact (List.getElem?_eq_some_iff.mp e1).1, vs, w, ht', w1⟩, fun x H2 y => ?_⟩
    obtain ⟨T, x0, rfl, hT, rfl, y⟩ := y
    have := (y vs ht').symm.trans w1
    cases this
    refine ⟨m', Ext.new hT, rl.new hT, tup_laid ?_ hT⟩
    exact ⟨.int i, [_], rfl, rfl, RVs.one w2⟩
theorem fold_no {e : Expr} {env : Env} (h : notSet e = true) : ∀ x, foldedSetIterable e env x = pure x := fun x => by
  cases e <;> first | rfl | cases h
theorem pts_yes {W : WX} {t : T} (h : Pt.isYes t = true) : PTs X [] (tT et X.K W (T.ev call sub w none t)) := by
  cases t <;> try (cases h; done)
  exact ⟨fun pins s σ H Q I ⟨m, sl, hh, rl, rs, p⟩ => pts_nil.run pins s σ H Q I (p m H true Ext.refl rl rfl)⟩
end
section
variable {cf : Cfg} {et : ETab} {call : Nat → List C → Hc → R C} {sub : Nat → Str → Option Bool} {w : Nat} {k : Nat} {X : Cx} {W : WX}
mutual
theorem E.sound : ∀ (ir : E) (cf : Cfg) (X : Cx) (W : WX) (g : Good cf et call k X W) (e : Expr), mE ir cf e = true → PE X e (tE et X.K W (E.ev call sub w none ir))
  | .con c, cf, X, W, g, e, h => by
    cases e <;> try (cases h; done)
    rename_i kk j pos
    replace h : conIs kk c = true := h
    cases kk <;> cases c <;> try (cases h; done)
    · exact sE_const pe_non fun m H => rfl
    · rename_i b b'
      have : b = b' := beq_iff_eq.mp h
      subst this
      exact sE_const pe_bl fun m H => rfl
    · rename_i b b'
      have : b = b' := beq_iff_eq.mp h
      subst this
      exact sE_const pe_int fun m H => rfl
    · rename_i b b'
      have : b = b' := beq_iff_eq.mp h
      subst this
      exact sE_const pe_str fun m H => rfl
  | .var i, cf, X, W, g, e, h => by
    cases e <;> try (cases h; done)
    rename_i x pos
    obtain ⟨h, h4⟩ := two h
    obtain ⟨h, h3⟩ := two h
    obtain ⟨h1, h2⟩ := two h
    have hv : Vis X.env.scope x := by
      have q : ∀ y, X.env.scope.names.lookup y = cf.kind y := g.kind
      obtain h2 | h2 := Bool.or_eq_true_iff.mp h2
      · obtain h2 | h2 := Bool.or_eq_true_iff.mp h2
        · exact .inl ((q x).trans (beq_iff_eq.mp h2))
        · exact .inr (.inl ((q x).trans (beq_iff_eq.mp h2)))
      · exact .inr (.inr ((q x).trans (beq_iff_eq.mp h2)))
    exact sE_var (pe_var (by rw [g.N]; exact beq_iff_eq.mp h1) hv (noB h3) (noB h4))
  | .glob y c, cf, X, W, g, e, h => by
    cases e <;> try (cases h; done)
    rename_i x pos
    obtain ⟨h, h3⟩ := two h
    obtain ⟨h1, h2⟩ := two h
    obtain ⟨f1, f2, f3⟩ := g.gl h2
    obtain ⟨q, hq, hh⟩ := List.any_eq_true.mp h3
    obtain ⟨q1, q2⟩ := two hh
    obtain ⟨y', c'⟩ := q
    have e1 : y' = x := beq_iff_eq.mp q1
    subst e1
    have e2 : c' = c := cSame_eq q2
    subst e2
    obtain ⟨v, u, hm, r, rv⟩ := g.con _ _ hq
    exact sE_const (pe_glob f1 hm r f2) fun m H => rv m H
  | .bin o a b, cf, X, W, g, e, h => by
    cases e <;> try (cases h; done)
    rename_i l op r pos
    obtain ⟨h1, h2⟩ := two h
    obtain ⟨h2, h3⟩ := two h2
    have := of_decide_eq_true h1
    subst this
    exact sE_bin o (E.sound a cf X W g l h2) (E.sound b cf X W g r h3)
  | .neg a, cf, X, W, g, e, h => by
    cases e <;> try (cases h; done)
    rename_i op l pos
    obtain ⟨h1, h2⟩ := two h
    have := of_decide_eq_true h1
    subst this
    exact sE_neg (E.sound a cf X W g l h2)
  | .notv a, cf, X, W, g, e, h => by
    cases e <;> try (cases h; done)
    rename_i op l pos
    obtain ⟨h1, h2⟩ := two h
    have := of_decide_eq_true h1
    subst this
    exact sE_notv (E.sound a cf X W g l h2)
  | .cmp o a b, cf, X, W, g, e, h => by
    cases e <;> try (cases h; done)
    rename_i l ops rs pos
    match ops, rs, h with
    | [op], [r], h =>
      obtain ⟨h, h3⟩ := two h
      obtain ⟨h1, h2⟩ := two h
      obtain ⟨h3, h4⟩ := two h3
      have := of_decide_eq_true h1
      subst this
      exact sE_cmp o (by have := g.units; omega) (noB h2) (E.sound a cf X W g l h3) (E.sound b cf X W g r h4)
    | [], _, h => cases h
    | _ :: _ :: _, _, h => cases h
    | [_], [], h => cases h
    | [_], _ :: _ :: _, h => cases h
  | .chain o o' a b c, cf, X, W, g, e, h => by
    cases e <;> try (cases h; done)
    rename_i l ops rs pos
    match ops, rs, h with
    | [op, op'], [r, q], h =>
      obtain ⟨h, h4⟩ := two h
      obtain ⟨h, h3⟩ := two h
      obtain ⟨h1, h2⟩ := two h
      obtain ⟨h4, h5⟩ := two h4
      obtain ⟨h5, h6⟩ := two h5
      have := of_decide_eq_true h1
      subst this
      have := of_decide_eq_true h2
      subst this
      exact sE_chain o o' (by have := g.units; omega) (noB h3) (E.sound a cf X W g l h4) (E.sound b cf X W g r h5) (E.sound c cf X W g q h6)
    | [], _, h => cases h
    | [_], _, h => cases h
    | _ :: _ :: _ :: _, _, h => cases h
    | [_, _], [], h => cases h
    | [_, _], [_], h => cases h
    | [_, _], _ :: _ :: _ :: _, h => cases h
  | .andv a b, cf, X, W, g, e, h => by
    cases e <;> try (cases h; done)
    rename_i op l p
    match l, h with
    | [], h => cases h
    | x :: l, h =>
      obtain ⟨h1, h23⟩ := two h
      obtain ⟨h2, h3⟩ := two h23
      have := of_decide_eq_true h1
      subst this
      obtain ⟨y, r, rfl, hb⟩ := bool_tail (X := X) h3 fun e he => E.sound b cf X W g e he
      exact sE_and (E.sound a cf X W g x h2) hb
  | .orv a b, cf, X, W, g, e, h => by
    cases e <;> try (cases h; done)
    rename_i op l p
    match l, h with
    | [], h => cases h
    | x :: l, h =>
      obtain ⟨h1, h23⟩ := two h
      obtain ⟨h2, h3⟩ := two h23
      have := of_decide_eq_true h1
      subst this
      obtain ⟨y, r, rfl, hb⟩ := bool_tail (X := X) h3 fun e he => E.sound b cf X W g e he
      exact sE_or (E.sound a cf X W g x h2) hb
  | .ite t a b, cf, X, W, g, e, h => by
    cases e <;> try (cases h; done)
    rename_i c l r pos
    obtain ⟨h1, h2⟩ := two h
    obtain ⟨h2, h3⟩ := two h2
    exact sE_ite (T.sound t cf X W g c h1).1 (E.sound a cf X W g l h2) (E.sound b cf X W g r h3)
  | .tup es, cf, X, W, g, e, h => by
    cases e <;> try (cases h; done)
    rename_i l kk pos
    obtain ⟨h1, h2⟩ := two h
    exact sE_tup (Es.sound es cf X W g l h2) (of_decide_eq_true h1)
  | .lst es, cf, X, W, g, e, h => by
    cases e <;> try (cases h; done)
    rename_i l pos
    exact sE_lst (Es.sound es cf X W g l h)
  | .idx a i, cf, X, W, g, e, h => by
    cases e <;> try (cases h; done)
    rename_i l r pos
    obtain ⟨h1, h2⟩ := two h
    obtain ⟨h2, h3⟩ := two h2
    exact sE_idx (plain_ix h1) (E.sound a cf X W g l h2) (E.sound i cf X W g r h3)
  | .slc a lo hi, cf, X, W, g, e, h => by
    cases e <;> try (cases h; done)
    rename_i l r pos
    cases r <;> try (cases h; done)
    rename_i lo' hi' st p2
    obtain ⟨h1, h2⟩ := two h
    obtain ⟨h2, h3⟩ := two h2
    obtain ⟨h3, h4⟩ := two h3
    cases st with
    | some _ => cases h1
    | none => exact sE_slc (E.sound a cf X W g l h2) (Oe.sound lo cf X W g lo' h3) (Oe.sound hi cf X W g hi' h4)
  | .call f es, cf, X, W, g, e, h => by
    cases e <;> try (cases h; done)
    rename_i fn args kws pos
    cases fn <;> try (cases h; done)
    rename_i x p
    obtain ⟨h, h4⟩ := two h
    obtain ⟨h, h3⟩ := two h
    obtain ⟨h1, h2⟩ := two h
    obtain ⟨ps, hf⟩ := fn_get h3
    cases kws with
    | cons _ _ => cases h1
    | nil =>
      cases es with
      | nil =>
        cases args with
        | cons _ _ => cases h4
        | nil => exact sE_call0 g hf h2
      | cons a es =>
        cases args with
        | nil => cases h4
        | cons e' l =>
          obtain ⟨q1, q2⟩ := two h4
          obtain ⟨q2, q3⟩ := two q2
          exact sE_call1 g hf h2 (Es.sound (.cons a es) cf X W g (e' :: l) h4) (star_of q1) (no_any q3)
  | .callk f es ks perm, cf, X, W, g, e, h => by
    cases e <;> try (cases h; done)
    rename_i fn args kws pos
    cases fn <;> try (cases h; done)
    rename_i x p
    obtain ⟨h, h5⟩ := two h
    obtain ⟨h, h4⟩ := two h
    obtain ⟨h, h3⟩ := two h
    obtain ⟨h1, h2⟩ := two h
    obtain ⟨h5, h6⟩ := two h5
    obtain ⟨ps, hf⟩ := fn_get h2
    obtain ⟨q, hq, hh⟩ := List.any_eq_true.mp h3
    have := of_decide_eq_true hh
    subst this
    have h4 := of_decide_eq_true h4
    have hk := Es.soundK ks cf X W g kws h6
    have l2 := len_ks h6
    have l1 := len_es h5
    cases es with
    | nil =>
      cases args with
      | cons _ _ => cases h5
      | nil =>
        have := sE_callk0 (pos := pos) (p := p) g hf h1 hq h4 hk
        rw [l2] at this
        exact this
    | cons a es =>
      cases args with
      | nil => cases h5
      | cons e' l =>
        obtain ⟨q1, q2⟩ := two h5
        obtain ⟨q2, q3⟩ := two q2
        have := sE_callk1 (pos := pos) (p := p) g hf h1 hq h4 (Es.sound (.cons a es) cf X W g (e' :: l) h5) hk (star_of q1) (no_any q3)
        rw [l2, l1] at this
        exact this
  | .bi b es, cf, X, W, g, e, h => by
    cases e <;> try (cases h; done)
    rename_i fn args kws pos
    cases fn <;> try (cases h; done)
    rename_i x p
    obtain ⟨h, h5⟩ := two h
    obtain ⟨h, h4⟩ := two h
    obtain ⟨h, h3⟩ := two h
    obtain ⟨h1, h2⟩ := two h
    cases kws with
    | cons _ _ => cases h1
    | nil =>
      cases args with
      | nil => cases h4
      | cons e' l =>
        cases es with
        | nil => cases h5
        | cons a es =>
          obtain ⟨q1, q2⟩ := two h5
          obtain ⟨q2, q3⟩ := two q2
          exact sE_bi_all g (of_decide_eq_true h2) h3 (Es.sound (.cons a es) cf X W g (e' :: l) h5) (star_of q1) (no_any q3)
  | .isi a t, cf, X, W, g, e, h => by
    cases e <;> try (cases h; done)
    rename_i fn args kws pos
    cases fn <;> try (cases h; done)
    rename_i f p
    match args, h with
    | [], h => cases h
    | [_], h => cases h
    | _ :: _ :: _ :: _, h => cases h
    | [l, r], h =>
      cases r <;> try (cases h; done)
      rename_i x p1
      obtain ⟨h, h7⟩ := two h
      obtain ⟨h, h6⟩ := two h
      obtain ⟨h, h5⟩ := two h
      obtain ⟨h, h4⟩ := two h
      obtain ⟨h, h3⟩ := two h
      obtain ⟨h1, h2⟩ := two h
      have := of_decide_eq_true h2
      subst this
      have := of_decide_eq_true h4
      subst this
      obtain ⟨f1, f2, f3, f4⟩ := g.free h3
      obtain ⟨g1, g2, g3, g4⟩ := g.free h5
      cases kws with
      | cons _ _ => cases h1
      | nil => exact sE_isi f1 f2 g1 g2 (boot_ty t) g4 g3 (star_of h6) (by rfl) (E.sound a cf X W g l h7)
  | .pop a, cf, X, W, g, e, h => by
    cases e <;> try (cases h; done)
    rename_i fn args kws cpos
    cases fn <;> try (cases h; done)
    rename_i o nm apos
    obtain ⟨h, h6⟩ := two h
    obtain ⟨h, h5⟩ := two h
    obtain ⟨h, h4⟩ := two h
    obtain ⟨h, h3⟩ := two h
    obtain ⟨h1, h2⟩ := two h
    cases args with
    | cons _ _ => cases h1
    | nil =>
      cases kws with
      | cons _ _ => cases h2
      | nil =>
        have := of_decide_eq_true h3
        subst this
        exact sE_pop (base_of h4) h5 (E.sound a cf X W g o h6)
  | .comp a p it t, cf, X, W, g, e, h => by
    cases e <;> try (cases h; done)
    rename_i elt gens scope pos
    match gens, h with
    | [], h => cases h
    | _ :: _ :: _, h => cases h
    | [⟨tg, iter, ifs, asy⟩], h =>
      obtain ⟨h, h8⟩ := two h
      obtain ⟨h, h7⟩ := two h
      obtain ⟨h, h6⟩ := two h
      obtain ⟨h, h5⟩ := two h
      obtain ⟨h, h4⟩ := two h
      obtain ⟨h, h3⟩ := two h
      obtain ⟨h1, h2⟩ := two h
      have := of_decide_eq_true h1
      subst this
      obtain ⟨ok, ev⟩ := blk_ok g h3
      have gb := fun (s : Shared) (H : Hp) (C' : Addr) (cl : List (Str × Addr)) (fp : List Addr) => good_blk g ok.kind s H C' cl fp
      have hT : ∀ (s : Shared) (H : Hp) (C' : Addr) (cl : List (Str × Addr)) (fp : List Addr), PTs (X.blk s H scope (compEnvC scope cl C' X.env) fp) ifs (tT et X.K NoX (T.ev call sub w none t)) := fun s H C' cl fp => by
        cases ifs with
        | nil => exact pts_yes h7
        | cons c r =>
          cases r with
          | nil => exact pts_one (T.sound t _ _ _ (gb s H C' cl fp) c h7).1
          | cons _ _ => cases h7
      have hcomp := sE_comp (ifs := ifs) (et := et) (W := W) (w := w) (pos := pos) (fi := It.ev call sub w none it) (fg := Pt.put call sub w none p) (ft := T.ev call sub w none t) (fe := E.ev call sub w none a) g.calm (by rw [g.N]; exact g.nd) (It.sound it cf X W g tg iter (two h5).1 (two h5).2) ok
        (fun s H C' cl fp => by rw [ev]; exact flat_ok (gb s H C' cl fp) p tg h4 (fun _ hi => hi) h6)
        hT
        (fun s H C' cl fp => E.sound a _ _ _ (gb s H C' cl fp) elt h8) (fold_no h2)
      rw [ev] at hcomp
      exact hcomp
  | .revs a, cf, X, W, g, e, h => by
    cases e <;> try (cases h; done)
    rename_i l r pos
    cases r <;> try (cases h; done)
    rename_i lo hi st p3
    have h4 := (two h).2
    replace h := (two h).1
    have h3 := (two h).2
    replace h := (two h).1
    have h1 := (two h).1
    have h2 := (two h).2
    clear h
    cases lo with
    | some _ => cases h1
    | none =>
      cases hi with
      | some _ => cases h2
      | none =>
        cases st with
        | none => cases h3
        | some st =>
          cases st <;> try (cases h3; done)
          rename_i op c p2
          have h5 := (two h3).1
          replace h3 := (two h3).2
          have := of_decide_eq_true h5
          subst this
          cases c <;> try (cases h3; done)
          rename_i k kk p1
          cases k <;> try (cases h3; done)
          rename_i i
          have : i = 1 := beq_iff_eq.mp h3
          subst this
          exact sE_revs (E.sound a cf X W g l h4)
  | .excf _, cf, X, W, g, e, h => by cases h
  | .excis _, cf, X, W, g, e, h => by cases h
  | .dnew, cf, X, W, g, e, h => by
    cases e <;> try (cases h; done)
    rename_i ks vs pos
    obtain ⟨h1, h2⟩ := two h
    cases ks with
    | cons _ _ => cases h1
    | nil =>
      cases vs with
      | cons _ _ => cases h2
      | nil => exact sE_dnew
  | .dget a i, cf, X, W, g, e, h => by
    cases e <;> try (cases h; done)
    rename_i l r pos
    obtain ⟨h1, h2⟩ := two h
    obtain ⟨h2, h3⟩ := two h2
    exact sE_dget g.units (plain_ix h1) (E.sound a cf X W g l h2) (E.sound i cf X W g r h3)
  | .inr a neg es, cf, X, W, g, e, h => by
    cases e <;> try (cases h; done)
    rename_i l ops rs pos
    match ops, rs, h with
    | [op], [r], h =>
      cases r <;> try (cases h; done)
      rename_i fn args kws p2
      cases fn <;> try (cases h; done)
      rename_i x p
      obtain ⟨h, h8⟩ := two h
      obtain ⟨h, h7⟩ := two h
      obtain ⟨h, h6⟩ := two h
      obtain ⟨h, h5⟩ := two h
      obtain ⟨h, h4⟩ := two h
      obtain ⟨h, h3⟩ := two h
      obtain ⟨h1, h2⟩ := two h
      cases kws with
      | cons _ _ => cases h1
      | nil =>
        have := of_decide_eq_true h4
        subst this
        obtain ⟨f1, f2, f3, f4⟩ := g.free h3
        cases args with
        | nil => cases h6
        | cons e' l' =>
          cases es with
          | nil => cases h7
          | cons a1 es1 =>
            obtain ⟨q1, q2⟩ := two h7
            obtain ⟨q2, q3⟩ := two q2
            exact sE_inr neg f1 f2 (of_decide_eq_true h2) f4 f3 (Es.sound (.cons a1 es1) cf X W g (e' :: l') h7) (star_of q1) (no_any q3) (noB h5) (E.sound a cf X W g l h8)
    | [], _, h => cases h
    | _ :: _ :: _, _, h => cases h
    | [_], [], h => cases h
    | [_], _ :: _ :: _, h => cases h
  | .unk, cf, X, W, g, e, h => ⟨fun pins s σ H Q I ⟨m, sl, hh, rl, rs, p⟩ => False.elim p⟩
  | .ind a neg y ks, cf, X, W, g, e, h => by
    cases e <;> try (cases h; done)
    rename_i l ops rs pos
    match ops, rs, h with
    | [op], [r], h =>
      cases r <;> try (cases h; done)
      rename_i x p
      obtain ⟨h, h6⟩ := two h
      obtain ⟨h, h5⟩ := two h
      obtain ⟨h, h4⟩ := two h
      obtain ⟨h, h3⟩ := two h
      obtain ⟨h1, h2⟩ := two h
      have := of_decide_eq_true h1
      subst this
      obtain ⟨f1, f2, f3⟩ := g.gl h4
      obtain ⟨d, es, n, k1, k2, k3⟩ := g.kd x ks (List.contains_iff_mem.mp h5)
      exact sE_ind neg f1 k1 f2 k2 k3 (noB h2) (E.sound a cf X W g l h6)
    | [], _, h => cases h
    | _ :: _ :: _, _, h => cases h
    | [_], [], h => cases h
    | [_], _ :: _ :: _, h => cases h
theorem T.sound : ∀ (ir : T) (cf : Cfg) (X : Cx) (W : WX) (g : Good cf et call k X W) (e : Expr), mT ir cf e = true → PTW X e (tT et X.K W (T.ev call sub w none ir))
  | .inr a neg es, cf, X, W, g, e, h => by
    cases e <;> try (cases h; done)
    rename_i l ops rs pos
    match ops, rs, h with
    | [op], [r], h =>
      cases r <;> try (cases h; done)
      rename_i fn args kws p2
      cases fn <;> try (cases h; done)
      rename_i x p
      obtain ⟨h, h8⟩ := two h
      obtain ⟨h, h7⟩ := two h
      obtain ⟨h, h6⟩ := two h
      obtain ⟨h, h5⟩ := two h
      obtain ⟨h, h4⟩ := two h
      obtain ⟨h, h3⟩ := two h
      obtain ⟨h1, h2⟩ := two h
      cases kws with
      | cons _ _ => cases h1
      | nil =>
        have := of_decide_eq_true h4
        subst this
        obtain ⟨f1, f2, f3, f4⟩ := g.free h3
        cases args with
        | nil => cases h6
        | cons e' l' =>
          cases es with
          | nil => cases h7
          | cons a1 es1 =>
            obtain ⟨q1, q2⟩ := two h7
            obtain ⟨q2, q3⟩ := two q2
            exact ⟨sT_inr neg f1 f2 (of_decide_eq_true h2) f4 f3 (Es.sound (.cons a1 es1) cf X W g (e' :: l') h7) (star_of q1) (no_any q3) (noB h5) (E.sound a cf X W g l h8), fun op l p z => by cases z⟩
    | [], _, h => cases h
    | _ :: _ :: _, _, h => cases h
    | [_], [], h => cases h
    | [_], _ :: _ :: _, h => cases h
  | .tr a, cf, X, W, g, e, h => by
    obtain ⟨h1, h2⟩ := two h
    refine ⟨sT_tr (truth_he h1 _) (E.sound a cf X W g e h2), fun op l p z => ?_⟩
    subst z
    cases h1
  | .cmp o a b, cf, X, W, g, e, h => by
    cases e <;> try (cases h; done)
    rename_i l ops rs pos
    match ops, rs, h with
    | [op], [r], h =>
      obtain ⟨h, h3⟩ := two h
      obtain ⟨h1, h2⟩ := two h
      obtain ⟨h3, h4⟩ := two h3
      have := of_decide_eq_true h1
      subst this
      exact ⟨sT_cmp o (by have := g.units; omega) (noB h2) (E.sound a cf X W g l h3) (E.sound b cf X W g r h4), fun op l p z => by cases z⟩
    | [], _, h => cases h
    | _ :: _ :: _, _, h => cases h
    | [_], [], h => cases h
    | [_], _ :: _ :: _, h => cases h
  | .chn o o' a b c, cf, X, W, g, e, h => by
    cases e <;> try (cases h; done)
    rename_i l ops rs pos
    match ops, rs, h with
    | [op, op'], [r, q], h =>
      obtain ⟨h, h4⟩ := two h
      obtain ⟨h, h3⟩ := two h
      obtain ⟨h1, h2⟩ := two h
      obtain ⟨h4, h5⟩ := two h4
      obtain ⟨h5, h6⟩ := two h5
      have := of_decide_eq_true h1
      subst this
      have := of_decide_eq_true h2
      subst this
      exact ⟨sT_chain o o' (by have := g.units; omega) (noB h3) (E.sound a cf X W g l h4) (E.sound b cf X W g r h5) (E.sound c cf X W g q h6), fun op l p z => by cases z⟩
    | [], _, h => cases h
    | [_], _, h => cases h
    | _ :: _ :: _ :: _, _, h => cases h
    | [_, _], [], h => cases h
    | [_, _], [_], h => cases h
    | [_, _], _ :: _ :: _ :: _, h => cases h
  | .and a b, cf, X, W, g, e, h => by
    cases e <;> try (cases h; done)
    rename_i op l p
    match l, h with
    | [], h => cases h
    | x :: l, h =>
      obtain ⟨h1, h23⟩ := two h
      obtain ⟨h2, h3⟩ := two h23
      have := of_decide_eq_true h1
      subst this
      obtain ⟨y, r, rfl, hb⟩ := test_tail (X := X) h3 fun e he => T.sound b cf X W g e he
      have q := sW_and (T.sound a cf X W g x h2).1 hb
      exact ⟨q.pt, fun _ _ _ _ => q⟩
  | .or a b, cf, X, W, g, e, h => by
    cases e <;> try (cases h; done)
    rename_i op l p
    match l, h with
    | [], h => cases h
    | x :: l, h =>
      obtain ⟨h1, h23⟩ := two h
      obtain ⟨h2, h3⟩ := two h23
      have := of_decide_eq_true h1
      subst this
      obtain ⟨y, r, rfl, hb⟩ := test_tail (X := X) h3 fun e he => T.sound b cf X W g e he
      have q := sW_or (T.sound a cf X W g x h2).1 hb
      exact ⟨q.pt, fun _ _ _ _ => q⟩
  | .not a, cf, X, W, g, e, h => by
    cases e <;> try (cases h; done)
    rename_i op l pos
    obtain ⟨h1, h2⟩ := two h
    have := of_decide_eq_true h1
    subst this
    exact ⟨sT_not (T.sound a cf X W g l h2).1, fun op l p z => by cases z⟩
  | .yes, cf, X, W, g, e, h => by cases h
theorem Es.sound : ∀ (ir : Es) (cf : Cfg) (X : Cx) (W : WX) (g : Good cf et call k X W) (l : List Expr), mEs ir cf l = true → PA X l (tA et X.K W (Es.ev call sub w none ir))
  | .nil, cf, X, W, g, l, h => by
    cases l with
    | nil => exact sA_nil
    | cons _ _ => cases h
  | .cons a es, cf, X, W, g, l, h => by
    cases l with
    | nil => cases h
    | cons x l =>
      obtain ⟨h1, h2⟩ := two h
      obtain ⟨h2, h3⟩ := two h2
      exact sA_cons (star_of h1) (E.sound a cf X W g x h2) (Es.sound es cf X W g l h3)
theorem Es.soundK : ∀ (ir : Es) (cf : Cfg) (X : Cx) (W : WX) (g : Good cf et call k X W) (l : List Keyword), mKs ir cf l = true → PK X l (tA et X.K W (Es.ev call sub w none ir))
  | .nil, cf, X, W, g, l, h => by
    cases l with
    | nil => exact sK_nil
    | cons _ _ => cases h
  | .cons a es, cf, X, W, g, l, h => by
    cases l with
    | nil => cases h
    | cons x l =>
      obtain ⟨h1, h2⟩ := two h
      obtain ⟨nm, v, kp⟩ := x
      exact sK_cons (E.sound a cf X W g v h1) (Es.soundK es cf X W g l h2)
theorem Oe.sound : ∀ (ir : Oe) (cf : Cfg) (X : Cx) (W : WX) (g : Good cf et call k X W) (l : Option Expr), mO ir cf l = true → PO X l (tO et X.K W (Oe.ev call sub w none ir))
  | .none, cf, X, W, g, l, h => by
    cases l with
    | none => exact sO_none
    | some _ => cases h
  | .some a, cf, X, W, g, l, h => by
    cases l with
    | none => cases h
    | some x => exact sO_some (E.sound a cf X W g x h)
theorem Pt.sound : ∀ (p : Pt) (cf : Cfg) (X : Cx) (W : WX) (g : Good cf et call k X W) (e : Expr), mP p cf e = true → PG X e (tG et X.K (Pt.put call sub w none p))
  | .v i, cf, X, W, g, e, h => by
    cases e <;> try (cases h; done)
    rename_i x pos
    obtain ⟨q1, q2, q3, q4⟩ := g.loc h
    refine ⟨fun pins s σ H v u Q I r ⟨m, sl, hh, c, rl, rs, rv, p⟩ => (pg_name q4 q1 q2 q3).run pins s σ H v u Q I r ?_⟩
    exact p m H (σ.set i (some v)) Ext.refl rl (rs.set i rv)
  | .sub o i, cf, X, W, g, e, h => by
    cases e <;> try (cases h; done)
    rename_i l r pos
    obtain ⟨h1, h2⟩ := two h
    obtain ⟨h2, h3⟩ := two h2
    have hs : ∀ v, assign (.Subscript l r pos) X.env v = (do
      let ov ← holding [v] (eval l X.env)
      let iv ← holding [v, ov] (eval r X.env)
      standAt pos
      holding [v, ov, iv] (setItem ov iv v)
      release [v, ov, iv] []) := fun v => by cases r <;> first | rfl | cases h1
    refine ⟨fun pins s σ H v u Q I r' ⟨m, sl, hh, c, rl, rs, rv, p⟩ => (pg_sub (E.sound o cf X W g l h2) (E.sound i cf X W g r h3) set_list hs).run pins s σ H v u Q I r' ?_⟩
    have p : Post et X.K (fun _ _ _ => False) m H (relS X.K) Q (((E.ev call sub w none o sl hh).noerr).bind fun x h1 => ((E.ev call sub w none i sl h1).noerr).bind fun y h2 => (setitem x y c h2).bind fun _ h3 => .ok sl h3) := p
    refine ⟨m, sl, hh, rl, rs, Post.noerr (Post.bind p fun x hx e1 m1 H1 v1 x1 rl1 rv1 p1 => ?_)⟩
    refine ⟨m1, sl, hx, rl1, rs.ext x1, Post.noerr (Post.bind p1 fun y hy e2 m2 H2 v2 x2 rl2 rv2 p2 => ?_)⟩
    refine setitem_ok (et := et) (W := fun _ _ _ => False) m2 H2 hy x y c v1 v2 v _ rl2 (RV.ext x2 rv1) rv2 (RV.ext x2 (RV.ext x1 rv)) ?_
    exact Post.bind p2 fun _ hz e3 m3 H3 _ x3 rl3 _ p3 => p3 m3 H3 σ Ext.refl rl3 (((rs.ext x1).ext x2).ext x3)
  | .tup ps, cf, X, W, g, e, h => by
    cases e <;> try (cases h; done)
    rename_i l kk pos
    have ih := Pts.sound ps cf X W g l h
    obtain ⟨q1, q2⟩ := asg_len (env := X.env) h
    refine ⟨fun pins s σ H v u Q I r ⟨m, sl, hh, c, rl, rs, rv, p⟩ => (pg_tup (n := l.length) g.calm ih q1 q2).run pins s σ H v u Q I r ?_⟩
    cases c <;> try (exact False.elim p)
    rename_i cs
    obtain ⟨a, vs, rfl, e2, e3⟩ := rv
    have p : Post et X.K (fun _ _ _ => False) m H (relS X.K) Q (if cs.length = ps.len then Pts.put call sub w none ps cs sl hh else .bad) := p
    split at p
    · rename_i hl
      exact ⟨a, vs, rfl, e2, by rw [← e3.length, len_ps h]; exact hl, m, sl, hh, cs, rl, rs, e3, p⟩
    · exact p.elim
theorem Pts.sound : ∀ (p : Pts) (cf : Cfg) (X : Cx) (W : WX) (g : Good cf et call k X W) (l : List Expr), mPs p cf l = true → PGs X l (tGs et X.K (Pts.put call sub w none p))
  | .nil, cf, X, W, g, l, h => by
    cases l with
    | cons _ _ => cases h
    | nil =>
      refine ⟨fun pins s σ H vs us Q I r ⟨m, sl, hh, cs, rl, rs, rv, p⟩ => pgs_nil.run pins s σ H vs us Q I r ?_⟩
      cases cs with
      | nil =>
        cases rv
        exact ⟨rfl, p m H σ Ext.refl rl rs⟩
      | cons _ _ => exact False.elim p
  | .cons pt ps, cf, X, W, g, l, h => by
    cases l with
    | nil => cases h
    | cons x l =>
      obtain ⟨h1, h2⟩ := two h
      obtain ⟨h2, h3⟩ := two h2
      have hp := Pt.sound pt cf X W g x h2
      have hps := Pts.sound ps cf X W g l h3
      refine ⟨fun pins s σ H vs us Q I r ⟨m, sl, hh, cs, rl, rs, rv, p⟩ => (pgs_cons hp hps (by rw [asg_of h1]; rfl)).run pins s σ H vs us Q I r ?_⟩
      cases cs with
      | nil => exact False.elim p
      | cons c cs =>
        obtain ⟨v, t, rfl, r1, r2⟩ := rv
        have p : Post et X.K (fun _ _ _ => False) m H (relS X.K) Q ((Pt.put call sub w none pt c sl hh).bind fun sl1 h1 => Pts.put call sub w none ps cs sl1 h1) := p
        exact ⟨v, t, rfl, m, sl, hh, c, rl, rs, r1, Post.bind p fun sl1 h1' e1 m1 H1 σ1 x1 rl1 rs1 p1 => ⟨m1, sl1, h1', cs, rl1, rs1, r2.ext x1, p1⟩⟩
theorem It.sound : ∀ (it : Sh.It) (cf : Cfg) (X : Cx) (W : WX) (g : Good cf et call k X W) (tg e : Expr), mI it cf e = true → okTg it tg = true → PI X tg e (tI et X.K W (It.ev call sub w none it))
  | .seq a, cf, X, W, g, tg, e, h, ht => by
    refine ⟨fun pins s σ H R I ⟨m, sl, hh, rl, rs, p⟩ => (pi_seq (E.sound a cf X W g e h)).run pins s σ H R I ⟨m, sl, hh, rl, rs, ?_⟩⟩
    refine Post.bind (f := fun x h1 => show Sh.R ItV from match x with
      | .ref n => .ok (ItV.lst n) h1
      | .tup cs => .ok (ItV.tre cs) h1
      | .str z => .ok (ItV.txt z) h1
      | _ => .bad) p fun x h1 e1 m1 H1 v x1 rl1 rv1 p1 => ?_
    cases x with
    | ref n =>
      obtain ⟨a, q1, rfl, qL⟩ := rv1
      obtain ⟨cs, vs, _, hv, _⟩ := rl1.get q1 qL
      exact .inl ⟨a, rfl, ⟨vs, SqL.of hv⟩, p1 m1 H1 _ Ext.refl rl1 (jr_lst q1 qL)⟩
    | tup cs =>
      obtain ⟨a, vs, rfl, e2, e3⟩ := rv1
      exact .inr (.inl ⟨a, rfl, ⟨vs, e2⟩, p1 m1 H1 _ Ext.refl rl1 (jr_tre e2 e3)⟩)
    | str z =>
      cases rv1
      exact .inr (.inr ⟨z, rfl, p1 m1 H1 _ Ext.refl rl1 jr_txt⟩)
    | non => exact False.elim p1
    | bl _ => exact False.elim p1
    | int _ => exact False.elim p1
    | frz _ => exact False.elim p1
    | rep _ => exact False.elim p1
    | dref _ => exact False.elim p1
  | .rng1 a, cf, X, W, g, tg, e, h, ht => by
    cases e <;> try (cases h; done)
    rename_i fn args kws pos
    cases fn <;> try (cases h; done)
    rename_i x p
    match args, h with
    | [], h => cases h
    | _ :: _ :: _, h => cases h
    | [l], h =>
      obtain ⟨h, h5⟩ := two h
      obtain ⟨h, h4⟩ := two h
      obtain ⟨h, h3⟩ := two h
      obtain ⟨h1, h2⟩ := two h
      have := of_decide_eq_true h2
      subst this
      obtain ⟨f1, f2, f3, f4⟩ := g.free h3
      cases kws with
      | cons _ _ => cases h1
      | nil =>
        have hA : PA X [l] (tCons (tE et X.K W (E.ev call sub w none a)) tNil) := pa_cons (E.sound a cf X W g l h5) pa_nil (star_of h4)
        refine ⟨fun pins s σ H R I ⟨m, sl, hh, rl, rs, p⟩ => (pi_range1 f1 f2 hA (star_of h4)).run pins s σ H R I ⟨m, sl, hh, rl, rs, ?_⟩⟩
        refine Post.bind (f := fun x h1 => show Sh.R ItV from match x with
          | .int j => if -1000000000 < j ∧ j < 1000000000 then .ok (ItV.rng 0 j.toNat) h1 else .bad
          | _ => .bad) p fun x h1 e1 m1 H1 v x1 rl1 rv1 p1 => ?_
        cases x with
        | int j =>
          cases rv1
          dsimp only at p1
          split at p1
          · rename_i hj
            exact ⟨j, rfl, by omega, by omega, p1 m1 H1 _ Ext.refl rl1 jr_rng⟩
          · exact False.elim p1
        | non => exact False.elim p1
        | bl _ => exact False.elim p1
        | str _ => exact False.elim p1
        | tup _ => exact False.elim p1
        | ref _ => exact False.elim p1
        | frz _ => exact False.elim p1
        | rep _ => exact False.elim p1
        | dref _ => exact False.elim p1
  | .rng2 a b, cf, X, W, g, tg, e, h, ht => by
    cases e <;> try (cases h; done)
    rename_i fn args kws pos
    cases fn <;> try (cases h; done)
    rename_i x p
    match args, h with
    | [], h => cases h
    | [_], h => cases h
    | _ :: _ :: _ :: _, h => cases h
    | [l, r], h =>
      obtain ⟨h, h6⟩ := two h
      obtain ⟨h, h5⟩ := two h
      obtain ⟨h, h4⟩ := two h
      obtain ⟨h, h3⟩ := two h
      obtain ⟨h1, h2⟩ := two h
      obtain ⟨h6, h7⟩ := two h6
      have := of_decide_eq_true h2
      subst this
      obtain ⟨f1, f2, f3, f4⟩ := g.free h3
      cases kws with
      | cons _ _ => cases h1
      | nil =>
        have hA : PA X [l, r] (tCons (tE et X.K W (E.ev call sub w none a)) (tCons (tE et X.K W (E.ev call sub w none b)) tNil)) := pa_cons (E.sound a cf X W g l h6) (pa_cons (E.sound b cf X W g r h7) pa_nil (star_of h5)) (star_of h4)
        refine ⟨fun pins s σ H R I ⟨m, sl, hh, rl, rs, p⟩ => (pi_range2 f1 f2 hA (by rw [star_of h4, star_of h5]; rfl) (star_of h5)).run pins s σ H R I ⟨m, sl, hh, rl, rs, ?_⟩⟩
        refine Post.bind (f := fun x h1 => (E.ev call sub w none b sl h1).bind fun y h2 => match x, y with
          | .int i, .int j => if -1000000 < i ∧ i < 1000000 ∧ -1000000 < j ∧ j < 1000000 then .ok (ItV.rng i (j - i).toNat) h2 else .bad
          | _, _ => .bad) p fun x h1 e1 m1 H1 v x1 rl1 rv1 p1 => ?_
        refine ⟨m1, sl, h1, rl1, rs.ext x1, Post.bind p1 fun y h2 e2 m2 H2 u x2 rl2 rv2 p2 => ?_⟩
        have rv1' := RV.ext x2 rv1
        cases x <;> cases y <;> try (exact False.elim p2)
        rename_i i j
        cases rv1'
        cases rv2
        dsimp only at p2
        split at p2
        · rename_i hj
          exact ⟨i, j, rfl, ⟨by omega, by omega, by omega, by omega⟩, p2 m2 H2 _ Ext.refl rl2 jr_rng⟩
        · exact False.elim p2
  | .rng3 _ _ _, cf, X, W, g, tg, e, h, ht => by cases h
  | .enum a, cf, X, W, g, tg, e, h, ht => by
    cases tg <;> try (cases ht; done)
    cases e <;> try (cases h; done)
    rename_i fn args kws pos
    cases fn <;> try (cases h; done)
    rename_i x p
    match args, h with
    | [], h => cases h
    | _ :: _ :: _, h => cases h
    | [l], h =>
      obtain ⟨h, h5⟩ := two h
      obtain ⟨h, h4⟩ := two h
      obtain ⟨h, h3⟩ := two h
      obtain ⟨h1, h2⟩ := two h
      have := of_decide_eq_true h2
      subst this
      obtain ⟨f1, f2, f3, f4⟩ := g.free h3
      cases kws with
      | cons _ _ => cases h1
      | nil =>
        refine ⟨fun pins s σ H R I ⟨m, sl, hh, rl, rs, p⟩ => (pi_enA f1 f2 (E.sound a cf X W g l h5) (star_of h4)).run pins s σ H R I ⟨m, sl, hh, rl, rs, ?_⟩⟩
        refine Post.bind (f := fun x h1 => show Sh.R ItV from match x with
          | .ref n => .ok (ItV.enl n) h1
          | .tup cs => .ok (ItV.ent cs) h1
          | _ => .bad) p fun x h1 e1 m1 H1 v x1 rl1 rv1 p1 => ?_
        cases x with
        | ref n =>
          obtain ⟨a, q1, rfl, qL⟩ := rv1
          obtain ⟨cs, vs, e2, hv, q3⟩ := rl1.get q1 qL
          exact ⟨a, vs, rfl, .inl ⟨SqL.of hv, p1 m1 H1 _ Ext.refl rl1 (jr_enl q1 qL)⟩⟩
        | tup cs =>
          obtain ⟨a, vs, rfl, e2, e3⟩ := rv1
          exact ⟨a, vs, rfl, .inr ⟨e2, p1 m1 H1 _ Ext.refl rl1 (jr_ent e2 e3)⟩⟩
        | non => exact False.elim p1
        | bl _ => exact False.elim p1
        | int _ => exact False.elim p1
        | str _ => exact False.elim p1
        | frz _ => exact False.elim p1
        | rep _ => exact False.elim p1
        | dref _ => exact False.elim p1
  | .zip _ _, cf, X, W, g, tg, e, h, ht => by cases h
  | .rev a, cf, X, W, g, tg, e, h, ht => by
    cases e <;> try (cases h; done)
    rename_i fn args kws pos
    cases fn <;> try (cases h; done)
    rename_i x p
    match args, h with
    | [], h => cases h
    | _ :: _ :: _, h => cases h
    | [l], h =>
      obtain ⟨h, h5⟩ := two h
      obtain ⟨h, h4⟩ := two h
      obtain ⟨h, h3⟩ := two h
      obtain ⟨h1, h2⟩ := two h
      have := of_decide_eq_true h2
      subst this
      obtain ⟨f1, f2, f3, f4⟩ := g.free h3
      cases kws with
      | cons _ _ => cases h1
      | nil =>
        refine ⟨fun pins s σ H R I ⟨m, sl, hh, rl, rs, p⟩ => (RT.pi_revA f1 f2 (E.sound a cf X W g l h5) (star_of h4)).run pins s σ H R I ⟨m, sl, hh, rl, rs, ?_⟩⟩
        refine Post.bind (f := fun x h1 => show Sh.R ItV from match x with
          | .ref n => (match h1[n]? with
            | some cs => .ok (ItV.revl n cs.length) h1
            | none => .bad)
          | .tup cs => .ok (ItV.revt cs) h1
          | _ => .bad) p fun x h1 e1 m1 H1 v x1 rl1 rv1 p1 => ?_
        cases x with
        | ref n =>
          obtain ⟨a, q1, rfl, qL⟩ := rv1
          obtain ⟨cs, vs, e2, hv, q3⟩ := rl1.get q1 qL
          dsimp only at p1
          rw [e2] at p1
          dsimp only at p1
          rw [q3.length] at p1
          exact ⟨a, vs, rfl, .inl ⟨SqL.of hv, p1 m1 H1 _ Ext.refl rl1 (jr_revl q1 qL)⟩⟩
        | tup cs =>
          obtain ⟨a, vs, rfl, e2, e3⟩ := rv1
          exact ⟨a, vs, rfl, .inr ⟨e2, p1 m1 H1 _ Ext.refl rl1 (jr_revt e2 e3)⟩⟩
        | non => exact False.elim p1
        | bl _ => exact False.elim p1
        | int _ => exact False.elim p1
        | str _ => exact False.elim p1
        | frz _ => exact False.elim p1
        | rep _ => exact False.elim p1
        | dref _ => exact False.elim p1
  | .revr _, cf, X, W, g, tg, e, h, ht => by cases h
end
end
end Sh
set_option Elab.async false
set_option linter.all false
set_option autoImplicit false
set_option maxRecDepth 100000
set_option maxHeartbeats 8000000
/-! Sh, part J: what is walked; loops. -/
namespace Sh
open PySem PySem.Spec PyProof.Rows L2

section
variable {cf : Cfg} {et : ETab} {call : Nat → List C → Hc → R C} {sub : Nat → Str → Option Bool} {w : Nat} {k : Nat} {X : Cx} {W : WX}
/-! ### loops -/
theorem sS_while {c : Expr} {body : List Stmt} {pos : Pos} {ft : Sl → Hc → R Bool} {fb : Sl → Hc → RS'} (hp : PassesOwn (model X.prog X.w) X.A X.env X.xe) (hc : PT X c (tT et X.K W ft)) (hb : PSs X body (tS et X.K W fb)) :
    PS X (.While c body [] pos) (tS et X.K W fun sl h => whileF ft fb w sl h) := by
  refine (ps_while hp hc hb).imp fun D σ H ⟨m, sl, h, rl, rs, p⟩ => ?_
  refine ⟨fun n σ H => ∃ m sl h, Rl X.K m h H ∧ RS X.K m H sl σ ∧ PostS et X.K W D m H (whileF ft fb n sl h), ⟨w, m, sl, h, rl, rs, p⟩, ?_⟩
  rintro n σ H ⟨m, sl, h, rl, rs, p⟩
  cases n with
  | zero => exact False.elim p
  | succ n =>
    have p : PostS et X.K W D m H ((ft sl h).th sl fun k h1 => if k then
      (match fb sl h1 with
        | .nx sl2 h2 => whileF ft fb n sl2 h2
        | .ct sl2 h2 => whileF ft fb n sl2 h2
        | .bk sl2 h2 => .nx sl2 h2
        | r => r)
      else .nx sl h1) := p
    refine ⟨m, sl, h, rl, rs, PostS.th p rs fun k h1 e1 m1 H1 v x1 rl1 rv1 p1 => ?_⟩
    cases rv1
    cases k with
    | false =>
      rw [if_neg Bool.false_ne_true]
      exact p1 m1 H1 σ Ext.refl rl1 (rs.ext x1)
    | true =>
      rw [if_pos rfl]
      have p1 : PostS et X.K W D m1 H1 (match fb sl h1 with
        | .nx sl2 h2 => whileF ft fb n sl2 h2
        | .ct sl2 h2 => whileF ft fb n sl2 h2
        | .bk sl2 h2 => .nx sl2 h2
        | r => r) := p1
      refine ⟨fun σ' H' => ∃ m sl h, Rl X.K m h H' ∧ RS X.K m H' sl σ' ∧ PostS et X.K W D m H' (whileF ft fb n sl h), fun σ' H' q => ⟨n, Nat.lt_succ_self n, q⟩, m1, sl, h1, rl1, rs.ext x1, ?_⟩
      cases q : fb sl h1 with
      | nx sl2 h2 => rw [q] at p1; exact fun m2 H2 σ2 x2 rl2 rs2 => ⟨m2, sl2, h2, rl2, rs2, PostS.ext p1 x2⟩
      | ct sl2 h2 => rw [q] at p1; exact fun m2 H2 σ2 x2 rl2 rs2 => ⟨m2, sl2, h2, rl2, rs2, PostS.ext p1 x2⟩
      | bk sl2 h2 => rw [q] at p1; exact p1
      | ret c h2 => rw [q] at p1; exact p1
      | err k xs sl2 h2 => rw [q] at p1; exact p1
      | bad => rw [q] at p1; exact p1
theorem sS_for {tg iter : Expr} {body : List Stmt} {pos : Pos} {fi : Sl → Hc → R ItV} {fg : C → Sl → Hc → R Sl} {fb : Sl → Hc → RS'} (hp : PassesOwn (model X.prog X.w) X.A X.env X.xe) (hcalm : X.calm = true) (hi : PI X tg iter (tI et X.K W fi)) (hg : PG X tg (tG et X.K fg)) (hb : PSs X body (tS et X.K W fb))
    (hs : ∀ x, foldedSetIterable iter X.env x = pure x) : PS X (.For tg iter body [] pos) (tS et X.K W fun sl h => (fi sl h).th sl fun v h1 => forF v fg fb w 0 sl h1) := by
  refine (ps_for hp hcalm hi hg hb hs).imp fun D σ H ⟨m, sl, h, rl, rs, p⟩ => ?_
  refine ⟨m, sl, h, rl, rs, PostS.th p rs fun it h1 e1 m1 H1 J x1 rl1 j1 p1 => ?_⟩
  refine ⟨fun i n σ H => ∃ m sl h, Rl X.K m h H ∧ RS X.K m H sl σ ∧ JRel X.K m H it J ∧ PostS et X.K W D m H (forF it fg fb n i sl h), ⟨w, m1, sl, h1, rl1, rs.ext x1, j1, p1⟩, ?_⟩
  rintro i n σ H ⟨m, sl, h, rl, rs, j, p⟩
  cases n with
  | zero => exact False.elim p
  | succ n =>
    have p : PostS et X.K W D m H (match it.at_ i h with
      | none => .bad
      | some none => .nx sl h
      | some (some c) => (fg c sl h).noerr.th sl fun sl1 h1 => match fb sl1 h1 with
        | .nx sl2 h2 => forF it fg fb n (i + 1) sl2 h2
        | .ct sl2 h2 => forF it fg fb n (i + 1) sl2 h2
        | .bk sl2 h2 => .nx sl2 h2
        | r => r) := p
    obtain ⟨j1, j2⟩ := j i m h H Ext.refl rl
    cases q : it.at_ i h with
    | none => rw [q] at p; exact False.elim p
    | some o =>
      cases o with
      | none =>
        rw [q] at p
        exact .inl ⟨j1 q, p m H σ Ext.refl rl rs⟩
      | some c =>
        rw [q] at p
        obtain ⟨go, yl⟩ := j2 c q
        refine .inr ⟨go, fun σ' H' => ∃ m sl h, Rl X.K m h H' ∧ RS X.K m H' sl σ' ∧ JRel X.K m H' it J ∧ PostS et X.K W D m H' (forF it fg fb n (i + 1) sl h), fun σ' H' q => ⟨n, Nat.lt_succ_self n, q⟩, fun x H2 y => ?_⟩
        obtain ⟨m2, x2, rl2, rv2⟩ := yl x H2 y
        have p2 := PostS.ext p x2
        refine ⟨m2, sl, h, c, rl2, rs.ext x2, rv2, ?_⟩
        have p2 : PostS et X.K W D m2 H2 ((fg c sl h).noerr.th sl fun sl1 h1 => match fb sl1 h1 with
          | .nx sl2 h2 => forF it fg fb n (i + 1) sl2 h2
          | .ct sl2 h2 => forF it fg fb n (i + 1) sl2 h2
          | .bk sl2 h2 => .nx sl2 h2
          | r => r) := p2
        cases qg : fg c sl h with
        | err _ _ _ => rw [qg] at p2; exact False.elim p2
        | bad => rw [qg] at p2; exact False.elim p2
        | ok sl1 h1 =>
          rw [qg] at p2
          intro m3 H3 σ3 x3 rl3 rs3
          refine ⟨m3, sl1, h1, rl3, rs3, ?_⟩
          have p3 : PostS et X.K W D m2 H2 (match fb sl1 h1 with
            | .nx sl2 h2 => forF it fg fb n (i + 1) sl2 h2
            | .ct sl2 h2 => forF it fg fb n (i + 1) sl2 h2
            | .bk sl2 h2 => .nx sl2 h2
            | r => r) := p2
          have p3 := PostS.ext p3 x3
          have j3 : ∀ {m4 : List Addr} {H4 : Hp}, Ext X.K m3 H3 m4 H4 → JRel X.K m4 H4 it J := fun x4 => ((j.ext x2).ext x3).ext x4
          cases qb : fb sl1 h1 with
          | nx sl2 h2 => rw [qb] at p3; exact fun m4 H4 σ4 x4 rl4 rs4 => ⟨m4, sl2, h2, rl4, rs4, j3 x4, PostS.ext p3 x4⟩
          | ct sl2 h2 => rw [qb] at p3; exact fun m4 H4 σ4 x4 rl4 rs4 => ⟨m4, sl2, h2, rl4, rs4, j3 x4, PostS.ext p3 x4⟩
          | bk sl2 h2 => rw [qb] at p3; exact p3
          | ret c h2 => rw [qb] at p3; exact p3
          | err k xs sl2 h2 => rw [qb] at p3; exact p3
          | bad => rw [qb] at p3; exact p3
end
end Sh
set_option Elab.async false
set_option linter.all false
set_option autoImplicit false
set_option maxRecDepth 100000
set_option maxHeartbeats 4000000
/-! Sh, part K0: own classes of exceptions with an __init__, over any built-in class: storing their fields, making them. -/
namespace Sh
open PySem PySem.Spec PyProof.Rows L2
open PySem.Builtin PySem.Builtin.ObjectAttr

/-- what a class's line of classes tells of storing -/
structure Sto (l : List Value) : Prop where
  pass : ∀ v : Value, refuseLoop v "__setattr__" l = pure ()
  obj : l.contains (.type "object") = true
theorem Sto.ne {l : List Value} (S : Sto l) : l.isEmpty = false := by
  cases l with
  | cons _ _ => rfl
  | nil => exact absurd S.obj (by decide)
theorem Sto.own {l : List Value} (S : Sto l) (c : Addr) : Sto (.ref c :: l) := ⟨fun v => (refuseLoop_ref ..).trans (S.pass v), by rw [List.contains_cons, S.obj, Bool.or_true]⟩
theorem sto_of {B : String} {bm : List Value} (F : StoreFacts B bm "object.__setattr__" "object") : Sto bm := ⟨F.passes, F.hasOwner⟩
section
variable {P : Program} {w : World} {A : Around} {R : Result → Shared → Prop} {hh : Heap} {gg : Array GenState} {dd : Drawn} {tt : Nat} {oo : OsState}
  {K : PySem.W.Frag} {nm : Str} {tk : Tok} {u : Value} {e C dx : Addr} {fv : Array Value} {cd : ClassData}
/-- the first field: the dict is made -/
theorem sto0 (X : K.In hh) (hx : hh.get? e = some { cls := .ref C, data := .fields fv }) (hcd : PySem.W.clsIn K C = some cd) (S : Sto cd.mro) (hd : cd.hasDict = true) (ha : PySem.W.findIn K (.ref C) nm = some none)
    (hq : ∀ h2 t2 dx, (∀ b o, b ≠ e → hh.get? b = some o → h2.get? b = some o) → hh.objs.size ≤ dx → dx ≠ e → h2.get? e = some { cls := .ref C, dict := some dx, data := .fields fv } → h2.Ns1 dx (fun y => if y = nm then some u else none) → R (.ok (.ret .none)) ⟨h2, gg, dd, t2, oo⟩) :
    codeAny (model P w) A (.call (.builtin "object.__setattr__") ⟨[.ref e, .str nm tk, u], []⟩) R ⟨hh, gg, dd, tt, oo⟩ := by
  have new : e ≠ hh.objs.size := Nat.ne_of_lt (Heap.lt_size hx)
  have at_ : PySem.W.InstAt hh e { cls := .ref C, data := .fields fv } C none := ⟨hx, rfl, rfl, trivial⟩
  have so := PySem.F.store_object
  have looks : PySem.W.Looks (model P w) hh (classData C) cd := PySem.W.looks_clsIn X hcd
  have line : PySem.W.Looks (model P w) hh (mroOf (.ref C)) cd.mro := looks.andThen .now
  have isO : PySem.W.Looks (model P w) hh (isInstance (.ref e) (.type "object")) true := at_.type.andThen (PySem.W.looks_mroIn X (by
    unfold PySem.W.mroIn
    rw [hcd, Option.bind_some, if_neg (by rw [S.ne]; decide), S.obj]))
  refine codeAny_call_builtin so.slot.plain so.entry (@PySem.W.check_slot (model P w) _ _ ⟨hh, gg, dd, tt, oo⟩ "object.__setattr__" "object" "__setattr__" (.ref e)
    [.str nm tk, u] [] _ so.kind so.split isO (so.args _ _ _) ?_)
  rw [PySem.W.osa_eq, refuse_eq]
  refine wpAny_bind (wpAny_bind (at_.type.at (wpAny_bind (line.at ?_))))
  rw [S.pass]
  have none3 : PySem.W.Looks (model P w) hh (storeTaker? none) none := .now
  refine wpAny_pure (wpAny_bind (at_.type.at (wpAny_bind ((PySem.W.looks_findIn X ha).at (wpAny_bind (none3.at ?_))))))
  show wpAny _ _ (storeInOwnDict (.ref e) (.ref C) (.str nm tk) nm u false) _ _ _
  cases cd with
  | mk a1 a2 a3 a4 a5 a6 a7 a8 a9 a10 a11 =>
    obtain rfl : a6 = true := hd
    unfold storeInOwnDict ownDictForStores
    repeat (first
      | with_reducible refine PySem.HandSPX.store_in_new ?_ ?_
      | with_reducible refine wpAny_loadPart_at hx ?_
      | with_reducible refine looks.at ?_
      | wp_step)
    · exact ⟨_, #[], _, (Heap.get?_update_ne _ _ _ _ new.symm).trans (Heap.get?_push_at rfl rfl), rfl, fun z hz => absurd hz (by simp), fun _ => rfl⟩
    · intro h2 t2 ns sb
      have hx2 : (hh.push { cls := .type "dict", data := .dict #[] }).get? e = some { cls := .ref C, data := .fields fv } := Heap.get?_push_of_some _ hx
      refine hq h2 t2 hh.objs.size (fun b o hb ho => ?_) (Nat.le_refl _) new.symm ((sb.2 e new).trans (Heap.get?_update_self _ hx2 rfl)) ns
      rw [sb.2 b (Nat.ne_of_lt (Heap.lt_size ho)), Heap.get?_update_ne _ _ _ _ hb]
      exact Heap.get?_push_of_some _ ho
/-- a further field -/
theorem stoD {m0 : Str → Option Value} {nl : List Str} (X : K.In hh) (hx : hh.get? e = some { cls := .ref C, dict := some dx, data := .fields fv }) (hns : hh.Ns1 dx m0) (hw : Within m0 nl) (hz : nl.length ≤ 1000) (hcd : PySem.W.clsIn K C = some cd) (S : Sto cd.mro) (hd : cd.hasDict = true) (ha : PySem.W.findIn K (.ref C) nm = some none)
    (hq : ∀ h2 t2, (∀ b o, b ≠ dx → hh.get? b = some o → h2.get? b = some o) → h2.Ns1 dx (fun y => if y = nm then some u else m0 y) → R (.ok (.ret .none)) ⟨h2, gg, dd, t2, oo⟩) :
    codeAny (model P w) A (.call (.builtin "object.__setattr__") ⟨[.ref e, .str nm tk, u], []⟩) R ⟨hh, gg, dd, tt, oo⟩ := by
  obtain ⟨od, _, _, hod, _, _⟩ := hns.count hw
  have at_ : PySem.W.InstAt hh e { cls := .ref C, dict := some dx, data := .fields fv } C (some od) := ⟨hx, rfl, rfl, hod⟩
  have so := PySem.F.store_object
  have looks : PySem.W.Looks (model P w) hh (classData C) cd := PySem.W.looks_clsIn X hcd
  have line : PySem.W.Looks (model P w) hh (mroOf (.ref C)) cd.mro := looks.andThen .now
  have isO : PySem.W.Looks (model P w) hh (isInstance (.ref e) (.type "object")) true := at_.type.andThen (PySem.W.looks_mroIn X (by
    unfold PySem.W.mroIn
    rw [hcd, Option.bind_some, if_neg (by rw [S.ne]; decide), S.obj]))
  refine codeAny_call_builtin so.slot.plain so.entry (@PySem.W.check_slot (model P w) _ _ ⟨hh, gg, dd, tt, oo⟩ "object.__setattr__" "object" "__setattr__" (.ref e)
    [.str nm tk, u] [] _ so.kind so.split isO (so.args _ _ _) ?_)
  rw [PySem.W.osa_eq, refuse_eq]
  refine wpAny_bind (wpAny_bind (at_.type.at (wpAny_bind (line.at ?_))))
  rw [S.pass]
  have none3 : PySem.W.Looks (model P w) hh (storeTaker? none) none := .now
  refine wpAny_pure (wpAny_bind (at_.type.at (wpAny_bind ((PySem.W.looks_findIn X ha).at (wpAny_bind (none3.at ?_))))))
  show wpAny _ _ (storeInOwnDict (.ref e) (.ref C) (.str nm tk) nm u false) _ _ _
  cases cd with
  | mk a1 a2 a3 a4 a5 a6 a7 a8 a9 a10 a11 =>
    obtain rfl : a6 = true := hd
    unfold storeInOwnDict ownDictForStores
    repeat (first
      | with_reducible refine PySem.OEX.store_in_old hns hw hz ?_
      | with_reducible refine wpAny_loadPart_at hx ?_
      | with_reducible refine looks.at ?_
      | wp_step)
    exact fun h2 t2 ns sb => hq h2 t2 (fun b o hb ho => (sb.2 b hb).trans ho) ns
end
/-- what the written part says of a class with an __init__, over whatever built-in class -/
structure OexG (K : PySem.W.Frag) (C : Addr) : Prop where
  cls : ∃ nm q N bs bm sn sub ab col dd k0 k1 k2 k3 k5 newId, K.lookup C = some (excClassObj nm q C N bs bm true sn sub ab col dd k0 k1 k2 k3 k5 newId) ∧ Sto bm ∧ ∃ B initId bmB, ExcBaseFacts B newId initId bmB ∧ ∀ Y : String, bm.contains (.type Y) = bmB.contains (.type Y)
  sa : PySem.W.findIn K (.ref C) "__setattr__" = some (some (.builtin "object.__setattr__"))
  exC : PySem.W.subIn K (.ref C) (.type "BaseException") = some true
  tyC : PySem.W.typeIn K (.ref C) = some (.type "type")
  kC : PySem.W.keepIn K (.ref C) = true
section
variable {X : Cx} {pins : List (Addr × Obj)} {σ : L2.St} {H : Hp} {s : Shared} {a C dx : Addr} {f : Str} {y : V} {u : Value} {fs : List (Str × V)} {Q : Unit → Shared → Prop} {E : Value → Shared → Prop} {A : Around}
theorem OexG.clsIn (T : OexG X.K C) : ∃ cd : ClassData, PySem.W.clsIn X.K C = some cd ∧ Sto cd.mro ∧ cd.hasDict = true := by
  obtain ⟨n1, q1, N1, b1, l1, s1, u1, ab, co, _, _, _, _, _, _, _, hC, hS, _⟩ := T.cls
  have z : PySem.W.clsIn X.K C = some (ClassData.mk n1 b1 (.ref C :: l1) N1 q1 true s1 u1 ab co false) := by
    unfold PySem.W.clsIn
    rw [hC]
  exact ⟨_, z, hS.own C, rfl⟩
/-- self.f = y, the first one -/
theorem ostG_new (T : OexG X.K C) (I : Inv X pins σ H s) (e : H a = some (exo a C none)) (hno : PySem.W.findIn X.K (.ref C) f = some none) (ry : RelV y u)
    (h : ∀ dx s2, H dx = none → dx ≠ a → Inv X pins σ (upd (upd H dx (exd dx [(f, y)])) a (exo a C (some dx))) s2 → Q () s2) : wpAny (model X.prog X.w) A (setAttr (.ref a) f u) Q E s := by
  obtain ⟨cd, c1, c2, c3⟩ := T.clsIn
  obtain ⟨t1, ho⟩ := exo_at I.hok e
  obtain ⟨h0, gn, dr, tk, os⟩ := s
  refine PySem.W.set_plain I.kIn (od := none) ⟨ho, rfl, rfl, trivial⟩ T.sa (sto0 I.kIn ho c1 c2 c3 hno fun h2 t2 dx kp fr ne hx hn => ?_)
  have hdn : H dx = none := I.hok.fresh fr
  have off : ∀ {b : Addr} {o : Obj}, h0.get? b = some o → b ≠ dx := fun z => Nat.ne_of_lt (Nat.lt_of_lt_of_le (Heap.lt_size z) fr)
  have offA : ∀ {b : Addr}, H b = none → b ≠ a := fun n z => by rw [z, e] at n; cases n
  have U : Un X.fs [] H (upd (upd H dx (exd dx [(f, y)])) a (exo a C (some dx))) h0 h2 := by
    refine { keep := fun b o z n _ _ => kp b o (offA n) z, slot := fun b o z n _ _ => ⟨o.slots, kp b o (offA n) z⟩, free := fun b o z n _ => ?_, there := fun b o z _ => ?_, tups := fun b xs z => ?_, frzs := fun b o v z => ?_, tbls := fun b ps z => ⟨#[], ?_⟩ }
    · rw [upd_ne (offA n), upd_ne (off z), n]
    · rcases Decidable.em (b = a) with q | q
      · exact ⟨_, q ▸ hx⟩
      · exact ⟨o, kp b o q z⟩
    · rw [upd_ne (at_ne e z exo_tup), upd_ne (ne_of_none z hdn), z]
    · rw [upd_ne (at_ne e z exo_frz), upd_ne (ne_of_none z hdn), z]
    · rw [upd_ne (at_ne e z exo_tbl), upd_ne (ne_of_none z hdn), z]; simp
  refine h dx _ hdn ne (I.un (t' := t2) U fun b o z => ?_)
  rcases Decidable.em (b = a) with q | q
  · rw [q, upd_same] at z
    cases z
    rw [q]
    exact exo_ok hx
  rw [upd_ne q] at z
  rcases Decidable.em (b = dx) with q2 | q2
  · rw [q2, upd_same] at z
    cases z
    rw [q2]
    exact exd_ok hn (relO_put (fs := []) ry fun _ => True.intro)
  rw [upd_ne q2] at z
  refine (I.hok b o z).stay (fun c v hc z2 => kp c v ?_ z2) (fun c hc => ?_) fun c xs hc => ?_
  · rcases hc with hc | hc
    · rw [hc]; exact q
    · exact at_ne e hc exo_own
  · rw [upd_ne (at_ne e hc exo_own), upd_ne (ne_of_none hc hdn), hc]
  · rw [upd_ne (at_ne e hc exo_tup), upd_ne (ne_of_none hc hdn), hc]
/-- self.f = y, a further one -/
theorem ostG_old (T : OexG X.K C) (I : Inv X pins σ H s) (e : H a = some (exo a C (some dx))) (ed : H dx = some (exd dx fs)) (hl : fs.length ≤ 900) (hno : PySem.W.findIn X.K (.ref C) f = some none) (ry : RelV y u)
    (h : ∀ s2, Inv X pins σ (upd H dx (exd dx ((f, y) :: fs))) s2 → Q () s2) : wpAny (model X.prog X.w) A (setAttr (.ref a) f u) Q E s := by
  obtain ⟨cd, c1, c2, c3⟩ := T.clsIn
  obtain ⟨t1, ho⟩ := exo_at I.hok e
  obtain ⟨mA, hns, rel⟩ := exd_at I.hok ed
  have inn := within_of rel
  obtain ⟨h0, gn, dr, tk, os⟩ := s
  obtain ⟨od, _, _, hod, _, _⟩ := hns.count inn
  refine PySem.W.set_plain I.kIn (od := some od) ⟨ho, rfl, rfl, hod⟩ T.sa (stoD I.kIn ho hns inn (by rw [List.length_map]; omega) c1 c2 c3 hno fun h2 t2 kp hn => ?_)
  refine h _ (I.write (t' := t2) (x := dx) (e := dx) (o := exd dx ((f, y) :: fs)) (by rw [ed]; exact True.intro) (.inl rfl) kp ?_ (exd_ok hn (relO_put ry rel)))
  obtain ⟨o, _, _, z, _⟩ := hn
  exact ⟨o, z⟩
end
/-- self.f = e -/
def tOstG (K : PySem.W.Frag) (f : Str) (to te : TE) : TS := fun D σ H => te σ H fun y H1 => to σ H1 fun x H2 => ∃ a C : Addr, x = .ref a ∧ OexG K C ∧ PySem.W.findIn K (.ref C) f = some none ∧
  ((H2 a = some (exo a C none) ∧ ∀ dx, H2 dx = none → dx ≠ a → D.nx σ (upd (upd H2 dx (exd dx [(f, y)])) a (exo a C (some dx)))) ∨
    ∃ (dx : Addr) (fs : List (Str × V)), H2 a = some (exo a C (some dx)) ∧ H2 dx = some (exd dx fs) ∧ fs.length ≤ 900 ∧ D.nx σ (upd H2 dx (exd dx ((f, y) :: fs))))
section
variable {X : Cx} {o e : Expr} {es : List Expr} {to te : TE} {ta : TA} {f : Str} {p p2 pos : Pos}
theorem ps_ostG (ho : PE X o to) (he : PE X e te) (hs : swapsWith e (some (.Attribute o f p2)) pos.line X.env = pure false := by rfl) : PS X (.Assign [.Attribute o f p2] e pos) (tOstG X.K f to te) :=
  ⟨fun pins s σ H D I h => plainObj_wpAny_Assign_Attribute (thn (he.run pins s σ H _ I h) fun v s1 ⟨y, H1, I1, r1, q1⟩ =>
    thn (ho.run pins s1 σ H1 _ I1 q1) fun u s2 ⟨x, H2, I2, r2, a, C, ex, T, hno, q⟩ => by
      subst ex
      cases r2
      rcases q with ⟨ea, q⟩ | ⟨dx, fs, ea, ed, hl, q⟩
      · exact ostG_new T I2 ea hno r1 fun dx s3 n ne J => ⟨σ, _, J, q dx n ne⟩
      · exact ostG_old T I2 ea ed hl hno r1 fun s3 J => ⟨σ, _, J, q⟩) hs⟩
/-- C(e, ..), C's own __init__ keeping sp -/
theorem pmk_oexG {CX : CXT} {x : Str} {C fI : Addr} {k : Nat} {fd : FuncData} {ps : List Str} {sp : Sp} (T : OexG X.K C) (iC : PySem.W.findIn X.K (.ref C) "__init__" = some (some (.ref fI))) (tI : PySem.W.typeIn X.K (.ref fI) = some (.type "function"))
    (F1 : FnOk X.prog X.w X.K X.mg X.base CX k fI fd ps sp) (hr : Room (k + 1) X.A) (hb : Binds X.K fd ps []) (hx : Passes CX X (fun _ _ _ => False)) (hg : Gl X x) (hm : X.mg x = some (.ref C)) (ha : PA X (e :: es) ta)
    (hdb : (x == ("__debug__" : Str)) = false) (he : starEach (e :: es) X.env = (false, eval e X.env) :: starEach es X.env) (hpl : (backTo pos (starEach es X.env)).any (·.1) = false) :
    PMk X (.Call (.Name x p) (e :: es) [] pos) (tMkO C sp [] ta) := by
  intro pins s σ H Q I h
  obtain ⟨_, _, _, _, bm, _, _, _, _, _, _, _, _, _, _, newId, hC, _, B, initId, bmB, bf, cont⟩ := T.cls
  refine wpAny_Call_Name_kw (ld_glob I hg hm ?_ hdb)
  refine PySem.W.callWith_K (h₀ := X.base) I.ok.mod.kin T.kC (thn (ha.run pos pins s σ H _ I h) fun us s1 ⟨vs, H1, I1, r1, hz, q1⟩ => ⟨I1.kIn, ?_⟩) he hpl
  show wpAny _ _ (call (.ref C) us) _ _ _
  obtain ⟨h0, gn, dr, tk, os⟩ := s1
  have up : h0.objs.size ≤ h0.objs.size + 1 := Nat.le_succ _
  have q2 := q1 (h0.objs.size + 1) (I1.hok.fresh up)
  let h1 := (h0.push (PySem.W.kdv_tup us)).push (PySem.HandSPX.excO C h0.objs.size)
  have old : ∀ b o, h0.get? b = some o → h1.get? b = some o := fun b o z => Heap.get?_push_of_some _ (Heap.get?_push_of_some _ z)
  have got : h1.get? (h0.objs.size + 1) = some (PySem.HandSPX.excO C h0.objs.size) := by heap_get
  have J : Inv X pins σ (upd H1 (h0.objs.size + 1) (exo (h0.objs.size + 1) C none)) ⟨h1, gn, dr, tk, os⟩ := I1.laid (t' := tk) (a := h0.objs.size + 1) (o := exo (h0.objs.size + 1) C none) (h' := h1) old up (exo_ok got)
  have rs : Vals (V.ref (h0.objs.size + 1) :: (vs ++ [])) (Value.ref (h0.objs.size + 1) :: us) := by
    rw [List.append_nil]
    exact .cons rfl r1
  have lus : us.length ≤ sizeLine := by rw [← Paired.length r1, sizeLine_eq]; omega
  have lps : (Value.ref (h0.objs.size + 1) :: us).length = ps.length := by rw [← rs.length, F1.len _ _ _ _ q2]
  have bd := hb ⟨h1, gn, dr, tk, os⟩ (Value.ref (h0.objs.size + 1) :: us) J.kIn (by rw [List.append_nil]; exact lps)
  rw [List.append_nil] at bd
  refine wpAny_call (PySem.HandSPX.call_own bf cont (I1.kIn _ _ hC) (PySem.W.looks_findIn I1.kIn iC) (fun self => PySem.W.bind_fn I1.kIn self tI) lus
    (codeAny_mono (F1.run _ X.stack _ _ ⟨_, []⟩ _ _ _ (fun _ _ _ => False) (hr.make C us []) (J.env0.make C us []) bd rs q2) fun r s2 hq => ?_))
  cases r with
  | error er => exact hx pins σ _ _ er s2 J hq
  | ok fl =>
    cases fl with
    | ret v =>
      obtain ⟨v0, H2, o2, b2, u2, k2, rv, ev, dx, fs, ea, ed, hn, q3⟩ := hq
      subst ev
      exact ⟨rv, mk_end (raises_own T.exC T.tyC) I1 up old u2 k2 o2 b2 ea ed hn q3⟩
    | next => exact False.elim hq
    | brk => exact False.elim hq
    | cont => exact False.elim hq
end
theorem OexG.of {K : PySem.W.Frag} {C : Addr} (T : OexC K C) : OexG K C := by
  obtain ⟨nm, q, N, bs, bm, sn, sub, ab, col, dd, k0, k1, k2, k3, k5, hC, hbm⟩ := T.cls
  exact ⟨⟨nm, q, N, bs, bm, sn, sub, ab, col, dd, k0, k1, k2, k3, k5, _, hC, ⟨fun v => PySem.HandSPX.refsVE_pass v bm hbm, (PySem.HandSPX.refsVE_contains "object" bm hbm).trans (by decide +kernel)⟩, _, _, _, PySem.F.excBase_ValueError, fun Y => PySem.HandSPX.refsVE_contains Y bm hbm⟩, T.sa, T.exC, T.tyC, T.kC⟩
/-- own classes, then the line T -/
def refsT (T : List Value) : List Value → Bool
  | .ref _ :: r => refsT T r
  | l => l == T
theorem refsT_cases (T : List Value) (l : List Value) (h : refsT T l = true) : (∃ c r, l = .ref c :: r ∧ refsT T r = true) ∨ l = T := by
  cases l with
  | nil => exact .inr (beq_iff_eq.mp h)
  | cons v r => cases v <;> first | exact .inl ⟨_, _, rfl, h⟩ | exact .inr (beq_iff_eq.mp h)
theorem refsT_sto {T : List Value} (hT : Sto T) : ∀ l, refsT T l = true → Sto l
  | [], h => (refsT_cases T _ h).elim (fun ⟨_, _, e, _⟩ => by cases e) fun e => e ▸ hT
  | v :: r, h => by
    rcases refsT_cases T _ h with ⟨c, r2, e, h2⟩ | e
    · cases e
      exact (refsT_sto hT r h2).own c
    · rw [e]; exact hT
theorem refsT_cont {T : List Value} (Y : String) : ∀ l, refsT T l = true → l.contains (.type Y) = T.contains (.type Y)
  | [], h => (refsT_cases T _ h).elim (fun ⟨_, _, e, _⟩ => by cases e) fun e => e ▸ rfl
  | v :: r, h => by
    rcases refsT_cases T _ h with ⟨c, r2, e, h2⟩ | e
    · cases e
      rw [List.contains_cons, refsT_cont Y r h2]; rfl
    · rw [e]
theorem oexG_mk {K : PySem.W.Frag} {C N : Addr} {nm q : Str} {bs bm bmB : List Value} {sn : List Str} {sub : List Value} {ab : Bool} {col : Option Bool} {dd : Option Addr} {k0 k1 k2 k3 k5 : Option Value} {B newId initId : String}
    (hC : K.lookup C = some (excClassObj nm q C N bs bm true sn sub ab col dd k0 k1 k2 k3 k5 newId)) (hb : refsT bmB bm = true) (bf : ExcBaseFacts B newId initId bmB) (sf : StoreFacts B bmB "object.__setattr__" "object")
    (sa : PySem.W.findIn K (.ref C) "__setattr__" = some (some (.builtin "object.__setattr__"))) (exC : PySem.W.subIn K (.ref C) (.type "BaseException") = some true) (tyC : PySem.W.typeIn K (.ref C) = some (.type "type")) (kC : PySem.W.keepIn K (.ref C) = true) : OexG K C :=
  ⟨⟨nm, q, N, bs, bm, sn, sub, ab, col, dd, k0, k1, k2, k3, k5, newId, hC, refsT_sto (sto_of sf) bm hb, B, initId, bmB, bf, fun Y => refsT_cont Y bm hb⟩, sa, exC, tyC, kC⟩
end Sh
set_option Elab.async false
set_option linter.all false
set_option autoImplicit false
set_option maxRecDepth 100000
set_option maxHeartbeats 8000000
/-! Sh, part K: exceptions: made, caught by several named clauses, what a clause tells of them. -/
namespace Sh
open PySem PySem.Spec PyProof.Rows L2

/-! ### several clauses, each with a name -/
def wAsM (K : PySem.W.Frag) (Wout : WX) (D : Ends) : List (Value × Nat × (Addr → Value → Option Addr → TS)) → WX
  | [] => Wout
  | (c, i, ts) :: r => fun cls d σ H => ∃ b, PySem.W.exmOne K cls c = some b ∧
    (b = true → ∀ a, H a = none → ts a cls d { nx := fun σ' H' => D.nx (σ'.set i none) H', rt := D.rt, bk := fun σ' H' => D.bk (σ'.set i none) H', ct := fun σ' H' => D.ct (σ'.set i none) H' } (σ.set i (some (.ref a))) H) ∧
    (b = false → wAsM K Wout D r cls d σ H)
inductive HdsAs (X : Cx) : List ExceptHandler → List (Value × Nat × (Addr → Value → Option Addr → TS)) → Prop
  | nil : HdsAs X [] []
  | cons {x n : Str} {c : Value} {i : Nat} {ts : Addr → Value → Option Addr → TS} {b₀ : Stmt} {suite : List Stmt} {np pos' : Pos} {hds : List ExceptHandler} {l : List (Value × Nat × (Addr → Value → Option Addr → TS))} (hi : X.N[i]? = some n) (hln : X.env.kindOf n = some .local) (hc : Names X x c)
      (hsu : ∀ (a : Addr) (oe : Obj) (cls : Value) (d : Option Addr) (pn : List (Addr × Obj)), Zc cls d oe → (∃ vs, oe.data = .fields vs) → PSs (X.suite a ((a, oe) :: pn)) (b₀ :: suite) (ts a cls d)) (r : HdsAs X hds l) :
      HdsAs X (.ExceptHandler (some (.Name x np)) (some n) (b₀ :: suite) pos' :: hds) ((c, i, ts) :: l)
section
variable {X : Cx} {body : List Stmt} {h₀ : ExceptHandler} {hds : List ExceptHandler} {l : List (Value × Nat × (Addr → Value → Option Addr → TS))} {pos : Pos} {tb : WX → TS} {Wout : WX}
theorem ps_try_asm (hs : X.stack = X.env :: X.outer) (hf : X.env.frame = some X.env.locals) (hN : X.N.Nodup) (tk : Takes X Wout)
    (hb : ∀ (W : WX) (pn : List (Addr × Obj)) (xe : Value → Shared → Prop), Takes (X.tr pn xe) W → PassesOwn (model X.prog X.w) X.A X.env xe → PSs (X.tr pn xe) body (tb W))
    (hh : HdsAs X (h₀ :: hds) l) : PS X (.Try body (h₀ :: hds) [] [] pos) (fun D σ H => tb (wAsM X.K Wout D l) D σ H) := by
  refine ⟨fun pins s σ H D I h => ?_⟩
  have ok := I.ok
  have hfr : X.A.frames = some (X.env :: X.outer) := by rw [ok.frames, hs]
  refine wpAny_Try_except ?_
  refine wpAny_mono ((hb (wAsM X.K Wout D l) (X.pn ++ pins) (fun e s₁ => wpAny (model X.prog X.w) X.A (noteFrame e X.env) (fun _ s₂ => wpAny (model X.prog X.w) X.A (setFlight e none) (fun _ s₃ =>
    wpAny (model X.prog X.w) X.A (handleBy e X.env (h₀ :: hds)) (SP X pins D) X.xe s₃) X.xe s₂) X.xe s₁) (fun u s' xx => ?_) PassesOwn.looking).run [] s σ H D (I.toTry _) h) (fun f s1 hsp => ?_) (fun e s1 he => he)
  · -- the catch
    obtain ⟨a, B, sI, pins', σ', H', cls, d, rfl, J', nb, up, sky, na, os, ag, w⟩ := xx
    have J : Inv X pins σ' H' sI := J'.ofTry ok
    have sky' : Sky B (X.env :: X.outer) a (Zc cls d) X.env.locals s'.heap := by rw [← hs]; exact sky
    show wpAny (model X.prog X.w) X.A (noteFrame (.ref a) X.env) _ _ _
    refine Sky.land Zc.steady hfr hf sky' fun h3 fl3 up3 => ?_
    have J3 : Inv X pins σ' H' { s' with heap := h3 } := J.landed nb fl3.1 (up.trans up3) os ag
    obtain ⟨oe3, vs3, he3, hz3, hd3⟩ := fl3.there
    have notFr : ∀ {h : Heap} {o : Obj} {vs : Array Value}, h.FunFrames B (X.env :: X.outer) → h.get? a = some o → o.data = .fields vs → a ∉ frs (X.env :: X.outer) := fun {h o vs} ff e dd hm => by
      obtain ⟨_, o', e', hnf⟩ := ff.mem hm
      rw [e] at e'; cases e'
      exact hnf _ dd
    have nfr := notFr fl3.2.2.1 he3 hd3
    have nL : a ≠ X.env.locals := fun z => nfr (List.mem_filterMap.mpr ⟨X.env, List.mem_cons_self, by rw [hf, z]⟩)
    have nF : a ∉ X.fs := fun hm => by
      obtain ⟨e, he, q⟩ := List.mem_filterMap.mp hm
      exact nfr (List.mem_filterMap.mpr ⟨e, List.mem_cons_of_mem _ he, q⟩)
    have S3 := J3.suite he3 hd3 na nL nF
    have go : ∀ {hds' : List ExceptHandler} {l' : List (Value × Nat × (Addr → Value → Option Addr → TS))}, HdsAs X hds' l' → wAsM X.K Wout D l' cls d σ' H' →
        wpAny (model X.prog X.w) X.A (handleBy (.ref a) X.env hds') (SP X pins D) X.xe { s' with heap := h3 } := by
      intro hds' l' hk
      induction hk with
      | nil =>
        intro w
        refine wpAny_handleBy_nil ?_
        obtain ⟨k1, k2, k3, oe, vs, T, oT, ts', he, hz, hd, h1, hr⟩ := id fl3
        unfold PySem.passOn
        refine wpAny_bind (wpAny_field he hd h1 ?_)
        rw [if_neg (show ¬ ((Value.ref T == Value.none) = true) from by simp)]
        have fin : wpAny (model X.prog X.w) X.A (setFlight (.ref a) X.env.frame) (fun _ s4 => wpAny (model X.prog X.w) X.A (throw (.ref a) : Sem Flow) (SP X pins D) X.xe s4) X.xe { s' with heap := h3 } := by
          rw [hf]
          refine HandSPX.setFlight_upZ fl3 fun h4 hh4 up4 => wpAny_throw (tk _ _ ?_)
          exact ⟨a, B, sI, pins, σ', H', cls, d, rfl, J, nb, (up.trans up3).trans up4, .inr (.inr (by rw [hs]; exact hh4)), na, os, ag, w⟩
        first
          | exact wpAny_bind (wpAny_pure (wpAny_bind fin))
          | exact wpAny_bind fin
      | @cons x n c i ts b₀ suite np pos' hds2 l2 hi hln hc hsu r ih =>
        intro w
        obtain ⟨b, hb1, hyes, hno⟩ := w
        have hloc : Loc X.env.scope n := .inl hln
        refine wpAny_handleBy_cons (codeAny_handlers_test ?_) (by intro q; cases q)
        have LT : PySem.W.Looks (model X.prog X.w) h3 (typeOf (.ref a)) cls := fun A Q E s k q => wpAny_typeOf_ref (k _ _ he3) (by rw [hz3.1]; exact q)
        have LM := PySem.W.exm_one (M := model X.prog X.w) (J3.kIn) LT hb1
        have test : ∀ {Q : Value → Shared → Prop} {E : Value → Shared → Prop}, Q c { s' with heap := h3 } → wpAny (model X.prog X.w) (X.A.mark (some (.ref a))) (eval (.Name x np) X.env) Q E { s' with heap := h3 } := fun {Q E} q => by
          obtain ⟨hg, hdbg, hm | ⟨hm, hv, hnn⟩⟩ := hc
          · exact ld_glob (X := X.suite a ((a, oe3) :: (X.pn ++ pins))) S3 hg hm q hdbg
          · exact ld_blt (X := X.suite a ((a, oe3) :: (X.pn ++ pins))) S3 hg hm hv q hnn hdbg
        refine test (LM.here ?_)
        cases b with
        | true =>
          refine codeAny_handlers_suite_as ?_
          refine HandSPX.lands_againZ fl3 fun h4 fl4 up4 => ?_
          have J4 : Inv X pins σ' H' { s' with heap := h4 } := J.landed nb fl4.1 ((up.trans up3).trans up4) os ag
          obtain ⟨oe4, vs4, he4, hz4, hd4⟩ := fl4.there
          have S4 := J4.suite he4 hd4 na nL nF
          refine store_ok (X := X.suite a ((a, oe4) :: (X.pn ++ pins))) (v := .ref a) S4 hN hi hloc rfl (fun s5 S5 => ?_) (.inr hln)
          refine wpAny_mono ((hsu a oe4 cls d (X.pn ++ pins) hz4 ⟨_, hd4⟩).run [] s5 _ H' _ S5 (hyes rfl a na)) (fun f s6 hsp => ?_) (fun _ _ z => False.elim z)
          have end_ : ∀ {σ6 : L2.St} {H6 : Hp} {Q : Shared → Prop}, Inv (X.suite a ((a, oe4) :: (X.pn ++ pins))) [] σ6 H6 s6 → (∀ s7, Inv X pins (σ6.set i none) H6 s7 → Q s7) →
              wpAny (model X.prog X.w) X.A (do bindName X.env n .none; unbindBehindTheSuite X.env n pos') (fun _ s7 => Q s7) X.xe s6 := fun {σ6 H6 Q} S6 hq => gone_ok (S6.unsuite ok) hN hi hln hq
          cases f with
          | next =>
            obtain ⟨σ6, H6, S6, q6⟩ := hsp
            exact end_ S6 fun s7 J7 => ⟨_, _, J7, q6⟩
          | brk =>
            obtain ⟨σ6, H6, S6, q6⟩ := hsp
            exact end_ S6 fun s7 J7 => ⟨_, _, J7, q6⟩
          | cont =>
            obtain ⟨σ6, H6, S6, q6⟩ := hsp
            exact end_ S6 fun s7 J7 => ⟨_, _, J7, q6⟩
          | ret u =>
            obtain ⟨v6, σ6, H6, S6, r6, q6⟩ := hsp
            exact end_ S6 fun s7 J7 => ⟨_, _, _, J7, r6, q6⟩
        | false =>
          show wpAny _ X.A (handleBy (.ref a) X.env hds2) _ _ _
          exact ih (hno rfl)
    exact go hh w
  · cases f with
    | next =>
      obtain ⟨σ', H', J', q⟩ := hsp
      exact wpAny_execs_nil ⟨σ', H', J'.ofTry ok, q⟩
    | brk =>
      obtain ⟨σ', H', J', q⟩ := hsp
      exact ⟨σ', H', J'.ofTry ok, q⟩
    | cont =>
      obtain ⟨σ', H', J', q⟩ := hsp
      exact ⟨σ', H', J'.ofTry ok, q⟩
    | ret u =>
      obtain ⟨v, σ', H', J', r, q⟩ := hsp
      exact ⟨v, σ', H', J'.ofTry ok, r, q⟩
end

/-! ### the table of classes -/
structure Cfx where
  cf : Cfg
  ex : List (Str × Nat × Bool)
  hd : List (Str × List Nat)
  fs : List (List Str)
  cl : List Str
  hot : List Str := []
/-- what isinstance and the reading of fields ask of an own class of exceptions -/
structure XcC (K : PySem.W.Frag) (C : Addr) : Prop where
  cl : (PySem.W.clsIn K C).isSome = true
  ga : PySem.W.findIn K (.ref C) "__getattribute__" = some (some (.builtin "BaseException.__getattribute__"))
  gg : PySem.W.findIn K (.ref C) "__getattr__" = some none
  su : PySem.W.subIn K (.ref C) (.type "BaseException") = some true
  hd : PySem.W.hasDictIn K C = true
  ha : PySem.W.findIn K (.ref C) "__class__" = some (some (.builtin "object.__class__"))
  hn : PySem.W.specialIn K (.builtin "object.__class__") "__get__" = some (some (.builtin "getset_descriptor.__get__"))
  ht : PySem.W.takesIn K (.builtin "object.__class__") = some true
  hm : PySem.W.mroIn K C (.type "object") = some true
/-- __init__(self, ..): each field is stored -/
def spIni (C : Addr) (f : List Str) : Sp := fun vs H Q E => ∃ a ws, vs = .ref a :: ws ∧ ws.length = f.length ∧ OexC0 C a H ∧
    (∀ dx H2, H dx = none → dx ≠ a → H2 a = some (exo a C (some dx)) → H2 dx = some (exd dx (f.zip ws).reverse) → (∀ b, b ≠ a → b ≠ dx → H2 b = H b) → Q .non H2)
where OexC0 (C a : Addr) (H : Hp) : Prop := H a = some (exo a C none)
/-- where a name of a class stands -/
def ClsAt (mg : Str → Option Value) (x : Str) (c : Value) : Prop := mg x = some c ∨ (mg x = none ∧ bootBuiltins x = some c ∧ x ≠ "__name__")
inductive Mk (P : Program) (w : World) (K : PySem.W.Frag) (mg : Str → Option Value) (base : Heap) (k : Nat) (C : Addr) (f : List Str) : Bool → Prop
  | own (fI : Addr) (fd : FuncData) (T : OexG K C) (iC : PySem.W.findIn K (.ref C) "__init__" = some (some (.ref fI))) (tI : PySem.W.typeIn K (.ref fI) = some (.type "function")) (j : Nat) (hj : j + 1 ≤ k)
      (F : FnOk P w K mg base (L2.CX P w) j fI fd ("self" :: f) (spIni C f)) (hb : Binds K fd ("self" :: f) []) : Mk P w K mg base k C f true
  | bare (bmB : List Value) (B newId initId : String) (F : ExcBaseFacts B newId initId bmB) (q : PySem.W.excIn K C bmB newId = true) (kC : PySem.W.keepIn K (.ref C) = true) (tC : PySem.W.typeIn K (.ref C) = some (.type "type")) (sC : PySem.W.subIn K (.ref C) (.type "BaseException") = some true) (hf : f = []) : Mk P w K mg base k C f false
structure Tab (P : Program) (w : World) (K : PySem.W.Frag) (mg : Str → Option Value) (base : Heap) (k : Nat) (cx : Cfx) (et : ETab) (sub : Nat → Str → Option Bool) : Prop where
  fs : ∀ kk A f, et kk = some (A, f) → cx.fs[kk]? = some f ∧ f.Nodup
  made : ∀ x kk b, cx.ex.contains (x, kk, b) = true → ∃ C f, et kk = some (C, f) ∧ mg x = some (.ref C) ∧ Mk P w K mg base k C f b
  hd : ∀ x ks, cx.hd.contains (x, ks) = true → ∃ c, ClsAt mg x c ∧ ∀ kk A f, et kk = some (A, f) → PySem.W.exmOne K (.ref A) c = some (ks.contains kk)
  isx : ∀ kk A f x b, cx.cl.contains x = true → et kk = some (A, f) → sub kk x = some b → ∃ c, ClsAt mg x c ∧ PySem.W.kitOne K (.ref A) c = some b
  xc : ∀ kk A f, et kk = some (A, f) → XcC K A ∧ ∀ n ∈ f, PySem.W.findIn K (.ref A) n = some none

section
variable {cx : Cfx} {et : ETab} {sub : Nat → Str → Option Bool} {k : Nat} {X : Cx} {W : WX}
/-! ### an exception is made -/
def tMk (et : ETab) (K : PySem.W.Frag) (W : WX) (n : Nat) (fs : Sl → Hc → R (List C)) (kk : Nat) : L2.St → Hp → XK → Prop := fun σ H Q => tA et K W fs σ H fun vs H1 => ∃ m h xs, Rl K m h H1 ∧ RVs K m H1 xs vs ∧ xs.length = n ∧ n ≤ 900 ∧
  ∀ m' H' cls d, Ext K m H1 m' H' → Rl K m' h H' → RX et K m' H' kk xs cls d → Q cls d H'
theorem zip_rel {K : PySem.W.Frag} : True := trivial
theorem mk_own {x : Str} {p pos : Pos} {e : Expr} {es : List Expr} {fs : Sl → Hc → R (List C)} {kk : Nat} {C : Addr} {f : List Str} (hr : Room k X.A) (hk : et kk = some (C, f)) (hm : X.mg x = some (.ref C)) (M : Mk X.prog X.w X.K X.mg X.base k C f true) (hg : Gl X x) (hdb : (x == ("__debug__" : Str)) = false)
    (ha : PA X (e :: es) (tA et X.K W fs)) (he : starEach (e :: es) X.env = (false, eval e X.env) :: starEach es X.env) (hpl : (backTo pos (starEach es X.env)).any (·.1) = false) :
    PMk X (.Call (.Name x p) (e :: es) [] pos) (tMk et X.K W f.length fs kk) := by
  cases M with
  | own fI fd T iC tI j hj F hb =>
    intro pins s σ H Q I q
    refine pmk_oexG T iC tI F (hr.mono hj) hb passL hg hm ha hdb he hpl pins s σ H Q I ?_
    obtain ⟨m, sl, h, rl, rs, q⟩ := q
    refine ⟨m, sl, h, rl, rs, q.imp fun m1 H1 cs vs h1 e1 x1 rl1 rv1 q1 => ?_⟩
    obtain ⟨m2, h2, xs, rl2, rv2, hl, hn, q2⟩ := q1
    refine ⟨by rw [← rv2.length, hl]; omega, fun a na => ?_⟩
    rw [List.append_nil]
    refine ⟨a, vs, rfl, by rw [← rv2.length, hl], upd_same, fun dx H2 n1 n2 e2 e3 e4 => ?_⟩
    have n3 : H1 dx = none := by rw [upd_ne n2] at n1; exact n1
    refine ⟨rfl, dx, _, e2, e3, n3, ?_⟩
    have eq : upd (del H2 a) dx (.xd (f.zip vs).reverse) = upd H1 dx (.xd (f.zip vs).reverse) := by
      funext b
      by_cases hb1 : b = dx
      · rw [hb1, upd_same, upd_same]
      · rw [upd_ne hb1, upd_ne hb1]
        by_cases hb2 : b = a
        · rw [hb2, del_same, na]
        · rw [del_ne hb2, e4 b hb2 hb1, upd_ne hb2]
    rw [eq]
    exact q2 m2 _ _ _ (Ext.new n3) (rl2.new n3) ⟨C, f, vs, hk, rfl, by rw [← rv2.length, hl], rv2.ext (Ext.new n3), .inr ⟨dx, rfl, upd_same, rl2.out n3⟩⟩
theorem mk_bare {x : Str} {p pos : Pos} {kk : Nat} {C : Addr} {f : List Str} (hk : et kk = some (C, f)) (hm : X.mg x = some (.ref C)) (M : Mk X.prog X.w X.K X.mg X.base k C f false) (hg : Gl X x) (hdb : (x == ("__debug__" : Str)) = false) :
    PMk X (.Call (.Name x p) [] [] pos) (fun σ H Q => Q (.ref C) none H) := by
  cases M with
  | bare bmB B newId initId F q kC tC sC hf =>
    intro pins s σ H Q I h
    refine wpAny_Call_Name_kw (ld_glob I hg hm ?_ hdb)
    refine PySem.W.callWith_K0 I.kIn kC ?_
    show wpAny _ _ (call (.ref C) []) _ _ _
    obtain ⟨bm, N, nm, qn, bs, hdct, sn, sub, ab, col, dd, k0, k1, k2, k3, k5, mN, hC, hN, hni, T⟩ := exc_obj I.kIn q
    refine wpAny_call_exc_subT F T hC hN hni (fun h' e hm => ?_) (by show 0 ≤ sizeLine; exact Nat.zero_le _)
    exact mk_of I hm (raises_own sC tC) h (I.hok.gone hm.new)

/-! ### what a clause tells of the exception that it holds -/
structure HotI (et : ETab) (K : PySem.W.Frag) (i : Nat) (a : Addr) (cls : Value) (d : Option Addr) (kk : Nat) (xs : List C) (m : List Addr) (sl : Sl) (h : Hc) (H : Hp) (σ : L2.St) : Prop where
  rl : Rl K m h H
  rs : RS K m H sl σ
  rx : RX et K m H kk xs cls d
  at_ : i < σ.length → σ[i]? = some (some (.ref a))
theorem HotI.ext {et : ETab} {K : PySem.W.Frag} {i : Nat} {a : Addr} {cls : Value} {d : Option Addr} {kk : Nat} {xs : List C} {m m' : List Addr} {sl : Sl} {h h' : Hc} {H H' : Hp} {σ : L2.St} (q : HotI et K i a cls d kk xs m sl h H σ) (e : Ext K m H m' H') (rl : Rl K m' h' H') : HotI et K i a cls d kk xs m' sl h' H' σ :=
  ⟨rl, q.rs.ext e, q.rx.ext e, q.at_⟩
def NX : Value → Option Addr → Hp → Prop := fun _ _ _ => False
def tH (et : ETab) (K : PySem.W.Frag) (i : Nat) (a : Addr) (cls : Value) (d : Option Addr) (kk : Nat) (xs : List C) (f : Sl → Hc → R C) : TE := fun σ H Q => ∃ m sl h, HotI et K i a cls d kk xs m sl h H σ ∧ Post et K NX m H (relV K) Q (f sl h)
def tHA (et : ETab) (K : PySem.W.Frag) (i : Nat) (a : Addr) (cls : Value) (d : Option Addr) (kk : Nat) (xs : List C) (f : Sl → Hc → R (List C)) : TA := fun σ H Q => ∃ m sl h, HotI et K i a cls d kk xs m sl h H σ ∧ Post et K NX m H (relVs K) Q (f sl h)
variable {i kk : Nat} {n : Str} {a : Addr} {cls : Value} {d : Option Addr} {oe : Obj} {pn : List (Addr × Obj)} {xs : List C} {e : Expr} {es : List Expr} {fa : Sl → Hc → R C} {fb : Sl → Hc → R C} {fs : Sl → Hc → R (List C)} {pos : Pos}
theorem h_of (h : PE (X.suite a ((a, oe) :: pn)) e (tE et X.K (fun _ _ _ _ => False) fa)) : PE (X.suite a ((a, oe) :: pn)) e (tH et X.K i a cls d kk xs fa) := h.imp fun σ H Q ⟨m, sl, h, q, p⟩ => ⟨m, sl, h, q.rl, q.rs, p⟩
theorem hA_nil : PA (X.suite a ((a, oe) :: pn)) [] (tHA et X.K i a cls d kk xs fun _ h => .ok [] h) := pa_nil.imp fun σ H Q ⟨m, sl, h, q, p⟩ => p m H [] Ext.refl q.rl rfl
theorem hA_cons (hs : starEach (e :: es) X.env = (false, eval e X.env) :: starEach es X.env) (ha : PE (X.suite a ((a, oe) :: pn)) e (tH et X.K i a cls d kk xs fa)) (hr : PA (X.suite a ((a, oe) :: pn)) es (tHA et X.K i a cls d kk xs fs)) :
    PA (X.suite a ((a, oe) :: pn)) (e :: es) (tHA et X.K i a cls d kk xs fun sl h => (fa sl h).bind fun x h1 => (fs sl h1).bind fun ys h2 => .ok (x :: ys) h2) :=
  (pa_cons ha hr hs).imp fun σ H Q ⟨m, sl, h, q, p⟩ => ⟨m, sl, h, q, p.bind fun x h1 e1 m1 H1 v x1 rl1 rv1 p1 =>
    ⟨m1, sl, h1, q.ext x1 rl1, p1.bind fun ys h2 e2 m2 H2 vs x2 rl2 rv2 p2 => p2 m2 H2 (v :: vs) Ext.refl rl2 ⟨v, vs, rfl, RV.ext x2 rv1, rv2⟩⟩⟩
theorem h_lst (h : PA (X.suite a ((a, oe) :: pn)) es (tHA et X.K i a cls d kk xs fs)) : PE (X.suite a ((a, oe) :: pn)) (.List es pos) (tH et X.K i a cls d kk xs fun sl h => (fs sl h).bind fun xs h1 => if xs.length ≤ lineN then .ok (.ref h1.length) (h1 ++ [xs]) else .bad) :=
  (pe_lst h).imp fun σ H Q ⟨m, sl, h, q, p⟩ => ⟨m, sl, h, q, p.bind fun xs h1 e1 m1 H1 vs x1 rl1 rv1 p1 => by
    have rv1 : RVs X.K m1 H1 xs vs := rv1
    split at p1
    · rename_i hz
      exact ⟨by rw [← rv1.length]; exact line_le hz, fun p' hp => p1 _ _ _ (Ext.newL hp) (rl1.newL hp rv1) (lst_laid rl1)⟩
    · exact False.elim p1⟩
theorem h_and {b : Expr} {rest : List Expr} (ha : PE (X.suite a ((a, oe) :: pn)) e (tH et X.K i a cls d kk xs fa)) (hb : PE (X.suite a ((a, oe) :: pn)) (.BoolOp .And (b :: rest) pos) (tH et X.K i a cls d kk xs fb)) :
    PE (X.suite a ((a, oe) :: pn)) (.BoolOp .And (e :: b :: rest) pos) (tH et X.K i a cls d kk xs fun sl h => (fa sl h).bind fun x h1 => match x with
      | .bl true => fb sl h1
      | .bl false => .ok (.bl false) h1
      | _ => .bad) :=
  (pe_and ha hb).imp fun σ H Q ⟨m, sl, h, q, p⟩ => ⟨m, sl, h, q, p.bind fun x h1 e1 m1 H1 v x1 rl1 rv1 p1 => by
    cases x with
    | bl k =>
      cases rv1
      cases k with
      | true => exact ⟨true, rfl, ⟨m1, sl, h1, q.ext x1 rl1, p1⟩⟩
      | false => exact ⟨false, rfl, p1 m1 H1 _ Ext.refl rl1 rfl⟩
    | non => exact False.elim p1
    | int _ => exact False.elim p1
    | str _ => exact False.elim p1
    | tup _ => exact False.elim p1
    | ref _ => exact False.elim p1
    | frz _ => exact False.elim p1
    | rep _ => exact False.elim p1
    | dref _ => exact False.elim p1⟩
/-- the name of the clause -/
theorem h_name {p : Pos} (hi : X.N[i]? = some n) (hln : X.env.kindOf n = some .local) (hd : (n == ("__debug__" : Str)) = false) (hcd : (n == ("__classdict__" : Str)) = false) {R : V → Hp → Prop} {pins : List (Addr × Obj)} {σ : L2.St} {H : Hp} {s : Shared}
    (I : Inv (X.suite a ((a, oe) :: pn)) pins σ H s) (at_ : i < σ.length → σ[i]? = some (some (.ref a))) (q : R (.ref a) H) : wpAny (model X.prog X.w) (X.suite a ((a, oe) :: pn)).A (eval (.Name n p) X.env) (EP (X.suite a ((a, oe) :: pn)) pins σ R) (fun _ _ => False) s := by
  have hl : i < σ.length := by
    rw [I.len]
    exact (List.getElem?_eq_some_iff.mp hi).1
  exact (pe_var (X := X.suite a ((a, oe) :: pn)) (i := i) hi (.inl hln) hd hcd).run pins s σ H R I ⟨_, at_ hl, q⟩
theorem lookup_mem {α : Type} : ∀ {l : List (Str × α)} {f : Str} {v : α}, (l.map (·.1)).Nodup → (f, v) ∈ l → l.lookup f = some v
  | [], f, v, _, h => by cases h
  | (g, u) :: l, f, v, hn, h => by
    rw [List.map_cons, List.nodup_cons] at hn
    rw [List.lookup_cons]
    rcases List.mem_cons.mp h with e | e
    · cases e
      simp
    · have : f ≠ g := by
        rintro rfl
        exact hn.1 (List.mem_map.mpr ⟨_, e, rfl⟩)
      rw [show (f == g) = false from by simpa using this]
      exact lookup_mem hn.2 e
theorem zip_lookup {fs : List Str} {vs : List V} {j : Nat} {f : Str} {v : V} (hn : fs.Nodup) (hl : fs.length = vs.length) (h1 : fs[j]? = some f) (h2 : vs[j]? = some v) : (fs.zip vs).reverse.lookup f = some v := by
  refine lookup_mem ?_ ?_
  · rw [List.map_reverse, List.map_fst_zip (Nat.le_of_eq hl)]
    exact (List.reverse_perm fs).nodup_iff.mpr hn
  · rw [List.mem_reverse]
    refine List.mem_of_getElem? (i := j) ?_
    rw [List.getElem?_zip_eq_some]
    exact ⟨h1, h2⟩
theorem h_fld {j : Nat} {f : Str} {p1 q : Pos} (T : Tab X.prog X.w X.K X.mg X.base k cx et sub) (hz : Zc cls d oe) (hf : ∃ vs, oe.data = .fields vs) (hi : X.N[i]? = some n) (hln : X.env.kindOf n = some .local) (hd : (n == ("__debug__" : Str)) = false) (hcd : (n == ("__classdict__" : Str)) = false)
    (hj : ∀ f', cx.fs[kk]? = some f' → f'[j]? = some f) :
    PE (X.suite a ((a, oe) :: pn)) (.Attribute (.Name n p1) f q) (tH et X.K i a cls d kk xs fun _ h => match xs[j]? with
      | some c => .ok c h
      | none => .bad) := by
  refine ⟨fun pins s σ H Q I ⟨m, sl, h, g, p⟩ => ?_⟩
  obtain ⟨A, fs, vs, h1, h2, h3, h4, h5⟩ := id g.rx
  obtain ⟨f1, f2⟩ := T.fs _ _ _ h1
  obtain ⟨c1, c2⟩ := T.xc _ _ _ h1
  have hj' := hj _ f1
  cases hx : xs[j]? with
  | none =>
    rw [hx] at p
    exact False.elim p
  | some c =>
    rw [hx] at p
    obtain ⟨v, e1, e2⟩ := h4.get hx
    rcases h5 with ⟨h5, _⟩ | ⟨dd, hd1, hd2, hd3⟩
    · rw [h5] at hj'
      cases hj'
    · have he : PE (X.suite a ((a, oe) :: pn)) (.Name n p1) (fun σ H Q => (i < σ.length → σ[i]? = some (some (.ref a))) ∧ Q (.ref a) H) := ⟨fun pins s σ H Q I q => h_name hi hln hd hcd I q.1 q.2⟩
      refine (pe_xf (C := A) ⟨c1.ga, c1.gg, c1.su, c1.hd⟩ (c2 f (List.mem_of_getElem? hj')) hz hf he).run pins s σ H Q I ?_
      exact ⟨g.at_, rfl, h2, dd, _, v, hd1, hd2, zip_lookup f2 h3 hj' e1, p m H v Ext.refl g.rl e2⟩
theorem h_is {x : Str} {p p2 p3 : Pos} (T : Tab X.prog X.w X.K X.mg X.base k cx et sub) (hz : Zc cls d oe) (hf : ∃ vs, oe.data = .fields vs) (hi : X.N[i]? = some n) (hln : X.env.kindOf n = some .local) (hd : (n == ("__debug__" : Str)) = false) (hcd : (n == ("__classdict__" : Str)) = false)
    (hg : Gl X "isinstance") (hm : X.mg "isinstance" = none) (hgx : Gl X x) (hdx : (x == ("__debug__" : Str)) = false) (hcl : cx.cl.contains x = true) :
    PE (X.suite a ((a, oe) :: pn)) (.Call (.Name "isinstance" p3) [.Name n p, .Name x p2] [] pos) (tH et X.K i a cls d kk xs fun _ h => match sub kk x with
      | some b => .ok (.bl b) h
      | none => .bad) := by
  refine ⟨fun pins s σ H Q I ⟨m, sl, h, g, p⟩ => ?_⟩
  obtain ⟨A, fs, vs, h1, h2, h3, h4, h5⟩ := id g.rx
  subst h2
  obtain ⟨c1, c2⟩ := T.xc _ _ _ h1
  cases hx : sub kk x with
  | none =>
    rw [hx] at p
    exact False.elim p
  | some b =>
    rw [hx] at p
    obtain ⟨c, k1, k2⟩ := T.isx _ _ _ _ _ hcl h1 hx
    refine wpAny_Call_Name_kw (ld_blt I hg hm PyProof.Rows.boot_isinstance ?_ (by decide) (by decide))
    refine PyProof.Rows.callWith_builtin1 (args_cons (thn (h_name (R := fun x H' => x = .ref a ∧ H' = H) hi hln hd hcd I g.at_ ⟨rfl, rfl⟩) fun u s1 ⟨x1, H1, I1, r1, e1, e2⟩ => ?_) rfl) rfl rfl
    subst e1
    subst e2
    obtain rfl : u = Value.ref a := r1
    refine args_cons ?_ rfl
    have fin : ∀ (s2 : Shared), Inv (X.suite a ((a, oe) :: pn)) pins σ H1 s2 → wpAny (model X.prog X.w) (X.suite a ((a, oe) :: pn)).A (call (.builtin "isinstance") [.ref a, c]) (EP (X.suite a ((a, oe) :: pn)) pins σ Q) (fun _ _ => False) s2 := fun s2 I2 => by
      obtain ⟨hget, _⟩ := I2.pin (a, oe) (List.mem_append.mpr (.inl List.mem_cons_self))
      obtain ⟨vs', hv⟩ := hf
      have J : ∃ od, PySem.W.InstAt s2.heap a oe A od := by
        rcases h5 with ⟨_, h5⟩ | ⟨dd, hd1, hd2, hd3⟩
        · exact ⟨none, hget, hz.1, by unfold PySem.W.notCls; rw [hv] <;> rfl, by rw [hz.2, h5]; trivial⟩
        · obtain ⟨mA, hns, hr⟩ := (I2.hok dd _ hd2 : ObjOk X.prog X.w H1 s2.heap dd (.xd (fs.zip vs).reverse))
          obtain ⟨od, ho, hl⟩ := lookIn_ns hns
          exact ⟨some od, hget, hz.1, by unfold PySem.W.notCls; rw [hv] <;> rfl, by rw [hz.2, hd1]; exact ho⟩
      obtain ⟨od, J⟩ := J
      exact PySem.W.kia_one (PySem.W.kitx_exc c1.cl c1.ga c1.gg c1.su c1.ha c1.hn c1.ht c1.hm) I2.kIn J k2 (fun z => nomatch z) fun tk => ⟨.bl b, H1, I2.kept (t' := tk) fun _ _ z => z, rfl, p m H1 _ Ext.refl g.rl rfl⟩
    rcases k1 with k1 | ⟨k1, k3, k4⟩
    · exact ld_glob I1 hgx k1 (args_nil (fin _ I1)) hdx
    · exact ld_blt I1 hgx k1 k3 (args_nil (fin _ I1)) k4 hdx
theorem h_repr {p : Pos} (hgu : X.A.guards = some []) (hu : X.A.units + 70 < cLine) (hg : Gl X "repr") (hm : X.mg "repr" = none) (hs : starEach [e] X.env = (false, eval e X.env) :: starEach [] X.env) (ha : PE (X.suite a ((a, oe) :: pn)) e (tH et X.K i a cls d kk xs fa)) :
    PE (X.suite a ((a, oe) :: pn)) (.Call (.Name "repr" p) [e] [] pos) (tH et X.K i a cls d kk xs fun sl h => ((fa sl h).bind fun x h1 => Sh.R.bind (.ok [] h1) fun ys h2 => .ok (x :: ys) h2).bind fun xs h1 => bi .repr xs h1) := by
  refine ⟨fun pins s σ H Q I h => ?_⟩
  obtain ⟨r, hr, ok⟩ := bi_ok (X := X.suite a ((a, oe) :: pn)) (et := et) (W := NX) .repr (.inr rfl) hgu hu
  refine (pe_callB hr hg hm (by decide +kernel) (hA_cons (fs := fun _ h => .ok [] h) hs ha hA_nil) (by decide) (by decide) hs rfl).run pins s σ H Q I ?_
  obtain ⟨m, sl, h, g, p⟩ := h
  exact ⟨m, sl, h, g, p.bind fun xs h1 e1 m1 H1 vs x1 rl1 rv1 p1 => ok m1 H1 h1 xs vs Q rl1 rv1 p1⟩
end
end Sh
set_option Elab.async false
set_option linter.all false
set_option autoImplicit false
set_option maxRecDepth 100000
set_option maxHeartbeats 8000000
/-! Sh, part K2: a def that a clause hands its exception to, and that asks for its classes. -/
namespace Sh
open PySem PySem.Spec PyProof.Rows L2
section
variable {et : ETab} {sub : Nat → Str → Option Bool} {k : Nat} {X : Cx} {pos : Pos}
theorem run_hot {x qual : Str} {st : Stmt} {f : Addr} {fd : FuncData} {N ps : List Str} {pins : List (Addr × Obj)} {σ : L2.St} {H : Hp} {s : Shared} {Q : VK} {us : List Value} {vs : List V} {p : Addr × Obj}
    (F : Fun X.K x qual st f fd) (S : FnScope N ps (defScope st)) (hr : L2H.RoomH 1 X.A) (hb : Binds X.K fd ps []) (hp : p ∈ X.pn) (I : Inv X pins σ H s) (r : Vals vs us) (hl : vs.length = ps.length)
    (hbody : ∀ cdv : Value, ∃ t, PSs (L2H.cxH (L2.CX X.prog X.w) X.prog X.w X.K X.mg X.base N qual (defScope st) f cdv X.A X.stack s H (fun _ _ _ => False) p) (defBody st) t ∧ t { nx := fun _ H' => Q .non H', rt := Q } (L2.start N vs) H) :
    wpAny (model X.prog X.w) X.A (call (.ref f) us) (EP X pins σ Q) X.xe s := by
  obtain ⟨oc, od, kV, doc, pm, an, cdv, ct, osl, rfl, lk, hcd⟩ := F.ex
  have hlu : us.length = ps.length := by rw [← r.length]; exact hl
  have b := hb s us I.kIn (by rw [List.append_nil]; exact hlu)
  rw [List.append_nil] at b
  have P1 := I.pin p (List.mem_append_left _ hp)
  have hpin : L2H.PinOk X.stack H s p := ⟨P1.1, P1.2.1, fun hm => (List.mem_cons.mp (I.stkSub p.1 hm)).elim P1.2.2.1 P1.2.2.2.1, P1.2.2.2.2⟩
  have e0 := I.env0
  have KX : X.K.In s.heap := e0.mod.kin.keeps fun b o e => (e0.bs b o e).1
  have lim : s.heap.NoLimit := e0.mod.nolimit.keeps fun b o e => (e0.bs b o e).1
  have hkind : ∀ y ∈ ps.zip us, (defScope st).names.lookup y.1 = some .local ∨ ((defScope st).names.lookup y.1 = some .cell ∧ ((cellsFrom (s.heap.objs.size + 1) (defScope st).names []).lookup y.1).isSome = true) := fun ⟨n, v⟩ hy => by
    rcases S.par n (List.of_mem_zip hy).1 with q | q
    · exact .inl q
    · exact .inr ⟨q, PySem.W.cellsFrom_some _ _ _ (.inl q)⟩
  refine wpAny_call (codeAny_mono (R := L2.CR (L2.CX X.prog X.w) X.stack X.prog X.w H s Q (fun _ _ _ => False)) ?_ fun r s' hq => ?_)
  · refine codeAny_call_function hr.depth (KX _ _ lk) rfl S.co S.gen rfl (PySem.W.codeRec_of KX hcd) (b _ _ _ _ ?_)
    refine wpAny_newFunctionEnv_cells S.kind hkind fun env he s1 x => ?_
    subst he
    refine ⟨lim.keeps x.toInCall.keep, codeAny_func ?_⟩
    obtain ⟨t, ht, hq⟩ := hbody cdv
    have I2 : Inv (L2H.cxH (L2.CX X.prog X.w) X.prog X.w X.K X.mg X.base N qual (defScope st) f cdv X.A X.stack s H (fun _ _ _ => False) p) [] (L2.start N vs) H s1 := L2H.inv_startH S hpin e0 hl r x
    refine wpAny_mono (ht.run [] s1 (L2.start N vs) H _ I2 hq) (fun fl s' hs => ?_) fun e s' hs => hs
    have fin : ∀ {σ' : L2.St} {H' : Hp} {v : V} {u : Value}, Inv (L2H.cxH (L2.CX X.prog X.w) X.prog X.w X.K X.mg X.base N qual (defScope st) f cdv X.A X.stack s H (fun _ _ _ => False) p) [] σ' H' s' → RelV v u → Q v H' → L2.CE X.stack X.prog X.w H s Q u s' :=
      fun {σ' H' v u} J rv q => ⟨v, H', J.os, J.bare, J.base, J.hok, rv, q⟩
    cases fl with
    | ret u =>
      obtain ⟨v, σ', H', J, rv, q⟩ := hs
      exact fin J rv q
    | next =>
      obtain ⟨σ', H', J, q⟩ := hs
      exact fin (v := V.non) (u := Value.none) J rfl q
    | brk =>
      obtain ⟨_, _, _, q⟩ := hs
      exact False.elim q
    | cont =>
      obtain ⟨_, _, _, q⟩ := hs
      exact False.elim q
  · cases r with
    | error e =>
      obtain ⟨_, _, _, _, _, _, _, _, _, _, _, _, z⟩ := hq
      exact False.elim z
    | ok fl =>
      cases fl with
      | ret u => exact I.after hq
      | next => exact False.elim hq
      | brk => exact False.elim hq
      | cont => exact False.elim hq
/-- a class asked of an exception that a name holds -/
theorem y_is {Y : Cx} {n z : Str} {a A : Addr} {oe : Obj} {cls c : Value} {d : Option Addr} {i kk : Nat} {xs : List C} {m : List Addr} {b : Bool} {p p2 p3 : Pos} (hY : (a, oe) ∈ Y.pn) (hz : Zc cls d oe) (hf : ∃ vs, oe.data = .fields vs) (c1 : XcC Y.K A) (hA : ∀ A' f, et kk = some (A', f) → A' = A)
    (k1 : ClsAt Y.mg z c) (k2 : PySem.W.kitOne Y.K (.ref A) c = some b) (hi : Y.N[i]? = some n) (hln : Y.env.kindOf n = some .local) (hd : (n == ("__debug__" : Str)) = false) (hcd : (n == ("__classdict__" : Str)) = false)
    (hg : Gl Y "isinstance") (hm : Y.mg "isinstance" = none) (hgx : Gl Y z) (hdx : (z == ("__debug__" : Str)) = false) :
    PE Y (.Call (.Name "isinstance" p3) [.Name n p, .Name z p2] [] pos) (fun σ H Q => σ[i]? = some (some (.ref a)) ∧ RX et Y.K m H kk xs cls d ∧ Q (.bl b) H) := by
  refine ⟨fun pins s σ H Q I ⟨at_, rx, q⟩ => ?_⟩
  obtain ⟨A', fs, vs, h1, h2, h3, h4, h5⟩ := rx
  obtain rfl := hA _ _ h1
  subst h2
  refine wpAny_Call_Name_kw (ld_blt I hg hm PyProof.Rows.boot_isinstance ?_ (by decide) (by decide))
  refine PyProof.Rows.callWith_builtin1 (args_cons (thn ((pe_var (X := Y) (i := i) hi (.inl hln) hd hcd).run pins s σ H (fun x H' => x = .ref a ∧ H' = H) I ⟨_, at_, rfl, rfl⟩) fun u s1 ⟨x1, H1, I1, r1, e1, e2⟩ => ?_) rfl) rfl rfl
  subst e1
  subst e2
  obtain rfl : u = Value.ref a := r1
  refine args_cons ?_ rfl
  have fin : ∀ (s2 : Shared), Inv Y pins σ H1 s2 → wpAny (model Y.prog Y.w) Y.A (call (.builtin "isinstance") [.ref a, c]) (EP Y pins σ Q) Y.xe s2 := fun s2 I2 => by
    obtain ⟨hget, _⟩ := I2.pin (a, oe) (List.mem_append.mpr (.inl hY))
    obtain ⟨vs', hv⟩ := hf
    have J : ∃ od, PySem.W.InstAt s2.heap a oe A' od := by
      rcases h5 with ⟨_, h5⟩ | ⟨dd, hd1, hd2, hd3⟩
      · exact ⟨none, hget, hz.1, by unfold PySem.W.notCls; rw [hv] <;> rfl, by rw [hz.2, h5]; trivial⟩
      · obtain ⟨mA, hns, hr⟩ := (I2.hok dd _ hd2 : ObjOk Y.prog Y.w H1 s2.heap dd (.xd (fs.zip vs).reverse))
        obtain ⟨od, ho, hl⟩ := lookIn_ns hns
        exact ⟨some od, hget, hz.1, by unfold PySem.W.notCls; rw [hv] <;> rfl, by rw [hz.2, hd1]; exact ho⟩
    obtain ⟨od, J⟩ := J
    exact PySem.W.kia_one (PySem.W.kitx_exc c1.cl c1.ga c1.gg c1.su c1.ha c1.hn c1.ht c1.hm) I2.kIn J k2 (fun z => nomatch z) fun tk => ⟨.bl b, H1, I2.kept (t' := tk) fun _ _ z => z, rfl, q⟩
  rcases k1 with k1 | ⟨k1, k3, k4⟩
  · exact ld_glob I1 hgx k1 (args_nil (fin _ I1)) hdx
  · exact ld_blt I1 hgx k1 k3 (args_nil (fin _ I1)) k4 hdx
/-- def x(y): return isinstance(y, A) and isinstance(y, B) -/
def hotBody (y A B : Str) : List Stmt → Bool
  | [.Return (some (.BoolOp .And [.Call (.Name f1 _) [.Name y1 _, .Name A1 _] [] _, .Call (.Name f2 _) [.Name y2 _, .Name B2 _] [] _] _)) _] => f1 == "isinstance" && f2 == "isinstance" && y1 == y && y2 == y && A1 == A && B2 == B
  | _ => false
structure HotF (K : PySem.W.Frag) (mg : Str → Option Value) (et : ETab) (sub : Nat → Str → Option Bool) (x : Str) (f : Addr) (fd : FuncData) (st : Stmt) (y A B : Str) : Prop where
  hm : mg x = some (.ref f)
  F : Fun K x x st f fd
  hb : Binds K fd [y] []
  S : FnScope [y] [y] (defScope st)
  body : hotBody y A B (defBody st) = true
  hd : (y == ("__debug__" : Str)) = false
  hcd : (y == ("__classdict__" : Str)) = false
  hy : (defScope st).names.lookup y = some .local
  gi : (defScope st).names.lookup ("isinstance" : Str) = some .globalImplicit
  gA : (defScope st).names.lookup A = some .globalImplicit
  gB : (defScope st).names.lookup B = some .globalImplicit
  dA : (A == ("__debug__" : Str)) = false
  dB : (B == ("__debug__" : Str)) = false
  mi : mg "isinstance" = none
  kA : ∃ c, ClsAt mg A c ∧ ∃ c', ClsAt mg B c' ∧ ∀ kk Ad fs b, et kk = some (Ad, fs) → sub kk x = some b → ∃ b1 b2, PySem.W.kitOne K (.ref Ad) c = some b1 ∧ PySem.W.kitOne K (.ref Ad) c' = some b2 ∧ b = (b1 && b2)
theorem h_hot {cx : Cfx} {i kk : Nat} {n x y A B : Str} {a f : Addr} {fd : FuncData} {st : Stmt} {cls : Value} {d : Option Addr} {oe : Obj} {pn : List (Addr × Obj)} {xs : List C} {p p3 pos : Pos} (T : Tab X.prog X.w X.K X.mg X.base k cx et sub) (hz : Zc cls d oe) (hf : ∃ vs, oe.data = .fields vs) (hi : X.N[i]? = some n) (hln : X.env.kindOf n = some .local) (hd : (n == ("__debug__" : Str)) = false) (hcd : (n == ("__classdict__" : Str)) = false)
    (hr : L2H.RoomH 1 (X.suite a ((a, oe) :: pn)).A) (hgx : Gl X x) (hdx : (x == ("__debug__" : Str)) = false) (hF : HotF X.K X.mg et sub x f fd st y A B) :
    PE (X.suite a ((a, oe) :: pn)) (.Call (.Name x p3) [.Name n p] [] pos) (tH et X.K i a cls d kk xs fun _ h => match sub kk x with
      | some b => .ok (.bl b) h
      | none => .bad) := by
  refine ⟨fun pins s σ H Q I ⟨m, sl, h, g, q⟩ => ?_⟩
  obtain ⟨Ad, fs, vs, h1, h2, h3, h4, h5⟩ := id g.rx
  obtain ⟨c1, c2⟩ := T.xc _ _ _ h1
  cases hx : sub kk x with
  | none =>
    rw [hx] at q
    exact False.elim q
  | some b =>
    rw [hx] at q
    obtain ⟨c, kA, c', kB, hk⟩ := hF.kA
    obtain ⟨b1, b2, e1, e2, e3⟩ := hk _ _ _ _ h1 hx
    have he : PE (X.suite a ((a, oe) :: pn)) (.Name n p) (fun σ H Q => (i < σ.length → σ[i]? = some (some (.ref a))) ∧ Q (.ref a) H) := ⟨fun pins s σ H Q I q => h_name hi hln hd hcd I q.1 q.2⟩
    have ha := pa_cons he (pa_nil (X := X.suite a ((a, oe) :: pn))) rfl
    refine wpAny_Call_Name_kw (ld_glob I hgx hF.hm ?_ hdx)
    refine PySem.W.callWith_K (h₀ := X.base) I.ok.mod.kin hF.F.kp (thn (ha.run pos pins s σ H (fun vs H' => vs = [.ref a] ∧ H' = H) I ⟨g.at_, rfl, rfl⟩) fun us s1 ⟨ws, H1, I1, r, e4, e5⟩ => ⟨I1.kIn, ?_⟩) rfl rfl
    subst e4 e5
    show wpAny _ _ (call (.ref f) us) _ _ _
    refine run_hot hF.F hF.S hr hF.hb (p := (a, oe)) List.mem_cons_self I1 r rfl fun cdv => ?_
    have hB := hF.body
    generalize hbd : defBody st = bd at hB
    unfold hotBody at hB
    split at hB
    · rename_i f1 _ y1 _ A1 _ _ f2 _ y2 _ B2 _ _ _ _
      obtain ⟨hB, z6⟩ := two hB
      obtain ⟨hB, z5⟩ := two hB
      obtain ⟨hB, z4⟩ := two hB
      obtain ⟨hB, z3⟩ := two hB
      obtain ⟨z1, z2⟩ := two hB
      obtain rfl := beq_iff_eq.mp z1
      obtain rfl := beq_iff_eq.mp z2
      obtain rfl := beq_iff_eq.mp z3
      obtain rfl := beq_iff_eq.mp z4
      obtain rfl := beq_iff_eq.mp z5
      obtain rfl := beq_iff_eq.mp z6
      have hA : ∀ A' f, et kk = some (A', f) → A' = Ad := fun A' f z => by rw [h1] at z; cases z; rfl
      refine ⟨_, pss_one (ps_ret (pe_and (y_is (et := et) (kk := kk) (xs := xs) (m := m) (i := 0) (oe := oe) (a := a) List.mem_cons_self hz hf c1 hA kA e1 rfl hF.hy hF.hd hF.hcd hF.gi hF.mi hF.gA hF.dA) (pe_one (y_is (et := et) (kk := kk) (xs := xs) (m := m) (i := 0) (oe := oe) (a := a) List.mem_cons_self hz hf c1 hA kB e2 rfl hF.hy hF.hd hF.hcd hF.gi hF.mi hF.gB hF.dB)))), ?_⟩
      refine ⟨rfl, g.rx, b1, rfl, ?_⟩
      have fin : Q (.bl b) H1 := q m H1 _ Ext.refl g.rl rfl
      cases b1 with
      | true =>
        rw [if_pos rfl]
        refine ⟨rfl, g.rx, ?_⟩
        rw [e3] at fin
        exact fin
      | false =>
        rw [if_neg (by decide)]
        rw [e3] at fin
        exact fin
    · cases hB
end
end Sh
set_option Elab.async false
set_option linter.all false
set_option autoImplicit false
set_option maxRecDepth 100000
set_option maxHeartbeats 8000000
/-! Sh, part L: every matched statement does what the plain one tells. -/
namespace Sh
open PySem PySem.Spec PyProof.Rows L2

def noComp : Expr → Bool
  | .ListComp _ _ _ _ => false
  | .SetComp _ _ _ _ => false
  | .DictComp _ _ _ _ _ => false
  | _ => true
theorem swaps_no {e : Expr} {t : Option Expr} {l : Nat} {env : Env} (h : noComp e = true) : swapsWith e t l env = pure false := by
  cases e <;> first | rfl | cases h
/-- a comprehension whose value is not stored before its names are gone: the name is a cell -/
def noSw (cf : Cfg) (tg e : Expr) : Bool := match tg with
  | .Name y _ => match e with
    | .ListComp _ _ _ _ => !(cf.kind y == some .local)
    | _ => false
  | _ => match e with
    | .ListComp _ _ _ _ => true
    | _ => false
def isStar : Expr → Bool
  | .Starred _ _ => true
  | _ => false
def locName (cf : Cfg) : Expr → Bool
  | .Name x _ => cf.kind x == some .local
  | _ => false
def swN (cf : Cfg) (tg e : Expr) : Bool := match tg with
  | .Tuple ts _ _ => match e with
    | .Tuple vs _ _ => !(ts.length == 2 || ts.length == 3) || vs.all (foldedForSure 8) || ts.any fun t => !(locName cf t)
    | _ => true
  | .Name _ _ => true
  | .Subscript _ _ _ => true
  | _ => false
theorem fm_lt {α β : Type} {f : α → Option β} : ∀ {l : List α}, (∃ x ∈ l, f x = none) → (l.filterMap f).length < l.length
  | [], ⟨x, h, _⟩ => by cases h
  | a :: l, ⟨x, h, e⟩ => by
    rw [List.filterMap_cons]
    cases q : f a with
    | none => exact Nat.lt_succ_of_le (List.length_filterMap_le _ _)
    | some b =>
      rcases List.mem_cons.mp h with rfl | h
      · rw [e] at q; cases q
      · exact Nat.succ_lt_succ (fm_lt ⟨x, h, e⟩)
theorem sw_none {cf : Cfg} {tg e : Expr} {env : Env} (hk : ∀ x, env.kindOf x = cf.kind x) (h : swN cf tg e = true) : swappedStores [tg] e env = pure none := by
  cases tg <;> first | rfl | (cases h; done) | skip
  rename_i ts k p
  cases e <;> first | rfl | skip
  rename_i vs k2 p2
  have h : (!(ts.length == 2 || ts.length == 3) || vs.all (foldedForSure 8) || ts.any fun t => !(locName cf t)) = true := h
  unfold swappedStores
  dsimp only
  cases h1 : (!(ts.length == 2 || ts.length == 3)) with
  | true =>
    simp [h1]
  | false =>
    rw [h1] at h
    cases h2 : vs.all (foldedForSure 8) with
    | true =>
      simp only [h2]
      split
      · rfl
      · split
        · rfl
        · split
          · rfl
          · rfl
    | false =>
      rw [h2] at h
      have h3 : (ts.any fun t => !(locName cf t)) = true := h
      obtain ⟨t, ht, hl⟩ := List.any_eq_true.mp h3
      have hl := noB hl
      split
      · rfl
      · split
        · rfl
        · split
          · rfl
          · rename_i hn
            exfalso
            apply hn
            refine Bool.or_eq_true_iff.mpr (.inl ?_)
            refine bne_iff_ne.mpr (Nat.ne_of_lt (fm_lt ⟨t, ht, ?_⟩))
            cases t <;> try rfl
            rename_i x px _
            have hx : (env.kindOf x == some NameKind.local) = false := by
              rw [hk x]
              exact hl
            simp [hx]
def parB (px py : Pos) (x y : Str) (a b : Expr) : Bool := noStar a && noStar b && py.line == px.line && !(x == y) && !([a, b].all (foldedForSure 8)) && !([a, b].all (constantsAlone 8))
theorem two' {a b : Bool} (h : (a && b) = true) : a = true ∧ b = true := Bool.and_eq_true_iff.mp h
theorem sw_some {x y : Str} {px py pt pt2 : Pos} {kt k2 : Nat} {a b : Expr} {env : Env} (h : parB px py x y a b = true) (hb : env.blockKind = .function) (hx : env.kindOf x = some .local) (hy : env.kindOf y = some .local) :
    swappedStores [.Tuple [.Name x px, .Name y py] kt pt] (.Tuple [a, b] k2 pt2) env = pure (some [x, y]) := by
  obtain ⟨h, h6⟩ := two' h
  obtain ⟨h, h5⟩ := two' h
  obtain ⟨h, h4⟩ := two' h
  obtain ⟨h, h3⟩ := two' h
  obtain ⟨h1, h2⟩ := two' h
  have e5 := noB h5
  have e6 := noB h6
  have e4 : x ≠ y := by simpa using h4
  have e3 : py.line = px.line := by simpa using h3
  have key : ∀ f : Expr → Bool, f a = false → f b = false → [a, b].any f = false := fun f q r => by
    show (f a || (f b || false)) = false
    rw [q, r]; rfl
  unfold swappedStores
  dsimp only
  have ne4 : (x == y) = false := by simpa using e4
  have ne5 : (y == x) = false := by simpa using fun z : y = x => e4 z.symm
  rw [key _ (by cases a <;> first | rfl | cases h1) (by cases b <;> first | rfl | cases h2), e5, e6]
  simp [hb, hx, hy, e3, ne4, ne5, Expr.pos, List.eraseDups, List.eraseDupsBy, List.eraseDupsBy.loop]

/-! ### matchers -/
mutual
def mH (cx : Cfx) (n : Str) (ks : List Nat) : E → Expr → Bool
  | .con c => fun e => match e with
    | .Constant k _ _ => conIs k c
    | _ => false
  | .excf j => fun e => match e with
    | .Attribute o f _ => match o with
      | .Name x _ => x == n && ks.all fun kk => match cx.fs[kk]? with
        | some fs => fs[j]? == some f
        | none => true
      | _ => false
    | _ => false
  | .excis y => fun e => match e with
    | .Call fn args kws _ => match fn with
      | .Name f _ => match args with
        | [l, r] => match l with
          | .Name x _ => match r with
            | .Name z _ => kws.isEmpty && decide (f = "isinstance") && freeB cx.cf f && x == n && z == y && glB cx.cf z && cx.cl.contains z
            | _ => false
          | _ => false
        | [l] => match l with
          | .Name x _ => kws.isEmpty && x == n && f == y && glB cx.cf f && cx.hot.contains f
          | _ => false
        | _ => false
      | _ => false
    | _ => false
  | .andv a b => fun e => match e with
    | .BoolOp op l p => match l with
      | x :: l => decide (op = .And) && (mH cx n ks a x && andTail (mH cx n ks b) .And p l)
      | [] => false
    | _ => false
  | .bi .repr (.cons a .nil) => fun e => match e with
    | .Call fn args kws _ => match fn with
      | .Name f _ => match args with
        | [l] => kws.isEmpty && decide (f = "repr") && freeB cx.cf f && noStar l && mH cx n ks a l
        | _ => false
      | _ => false
    | _ => false
  | .lst es => fun e => match e with
    | .List l _ => mHs cx n ks es l
    | _ => false
  | _ => fun _ => false
def mHs (cx : Cfx) (n : Str) (ks : List Nat) : Es → List Expr → Bool
  | .nil => fun l => l.isEmpty
  | .cons a es => fun l => match l with
    | x :: l => noStar x && (mH cx n ks a x && mHs cx n ks es l)
    | [] => false
end
def locL (cf : Cfg) (i : Nat) (x : Str) : Bool := cf.N[i]? == some x && cf.kind x == some .local
mutual
def mS (cx : Cfx) : S → Stmt → Bool
  | .asg p a => fun s => match s with
    | .Assign tgs e _ => match tgs with
      | [tg] => (noComp e || noSw cx.cf tg e) && swN cx.cf tg e && noStar tg && (mP p cx.cf tg && mE a cx.cf e)
      | _ => false
    | _ => false
  | .par i j a b => fun s => match s with
    | .Assign tgs e _ => match tgs with
      | [tg] => match tg with
        | .Tuple ts _ _ => match ts with
          | [t1, t2] => match t1 with
            | .Name x px => match t2 with
              | .Name y py => match e with
                | .Tuple es _ _ => match es with
                  | [l, r] => parB px py x y l r && decide (i ≠ j) && locL cx.cf i x && locL cx.cf j y && (mE a cx.cf l && mE b cx.cf r)
                  | _ => false
                | _ => false
              | _ => false
            | _ => false
          | _ => false
        | _ => false
      | _ => false
    | _ => false
  | .aug i o a => fun s => match s with
    | .AugAssign tg op e _ => match tg with
      | .Name x _ => decide (op = opr o) && locB cx.cf i x && mE a cx.cf e
      | _ => false
    | _ => false
  | .setc i a => fun s => match s with
    | .Assign tgs e _ => match tgs with
      | [tg] => match tg with
        | .Name y py => match e with
          | .ListComp _ _ scope pos => locL cx.cf i y && py.line == pos.line && !(scope.names.any fun (n, k) => n == y && (k == .local || k == .cell)) && mE a cx.cf e
          | _ => false
        | _ => false
      | _ => false
    | _ => false
  | .app o a => fun s => match s with
    | .Expr c _ => match c with
      | .Call fn args kws cpos => match fn with
        | .Attribute ob nm apos => match args with
          | [e] => kws.isEmpty && decide (nm = "append") && isName ob && apos.endLine == cpos.line && noStar e && (mE o cx.cf ob && mE a cx.cf e)
          | _ => false
        | _ => false
      | _ => false
    | _ => false
  | .ext o a => fun s => match s with
    | .Expr c _ => match c with
      | .Call fn args kws cpos => match fn with
        | .Attribute ob nm apos => match args with
          | [e] => kws.isEmpty && decide (nm = "extend") && isName ob && apos.endLine == cpos.line && noStar e && (mE o cx.cf ob && mE a cx.cf e)
          | _ => false
        | _ => false
      | _ => false
    | _ => false
  | .asg3 i j k a => fun s => match s with
    | .Assign tgs e _ => match tgs with
      | [t1, t2, t3] => match t1 with
        | .Name x _ => match t2 with
          | .Name y _ => match t3 with
            | .Name z _ => locB cx.cf i x && locB cx.cf j y && locB cx.cf k z && mE a cx.cf e
            | _ => false
          | _ => false
        | _ => false
      | _ => false
    | _ => false
  | .augi o i op a => fun s => match s with
    | .AugAssign tg op' e _ => match tg with
      | .Subscript l r _ => decide (op' = opr op) && noSlice r && (mE o cx.cf l && (mE i cx.cf r && mE a cx.cf e))
      | _ => false
    | _ => false
  | .ifs t a b => fun s => match s with
    | .If c p q _ => mT t cx.cf c && (mSs cx a p && mSs cx b q)
    | _ => false
  | .whl t b => fun s => match s with
    | .While c p q _ => q.isEmpty && (mT t cx.cf c && mSs cx b p)
    | _ => false
  | .for_ p it b => fun s => match s with
    | .For tg iter bd q _ => q.isEmpty && notSet iter && (mP p cx.cf tg && ((mI it cx.cf iter && okTg it tg) && mSs cx b bd))
    | _ => false
  | .ret a => fun s => match s with
    | .Return v _ => match v with
      | some e => mE a cx.cf e
      | none => false
    | _ => false
  | .retn => fun s => match s with
    | .Return v _ => v.isNone
    | _ => false
  | .expr a => fun s => match s with
    | .Expr e _ => noComp e && mE a cx.cf e
    | _ => false
  | .raise kk es => fun s => match s with
    | .Raise v c _ => match c with
      | none => match v with
        | some v => match v with
          | .Call fn args kws _ => match fn with
            | .Name x _ => match args with
              | [] => kws.isEmpty && glB cx.cf x && cx.ex.contains (x, kk, false) && es.len == 0
              | _ :: _ => kws.isEmpty && glB cx.cf x && cx.ex.contains (x, kk, true) && (match cx.fs[kk]? with | some f => f.length == es.len && decide (f.length ≤ 900) | none => false) && mEs es cx.cf args
            | _ => false
          | _ => false
        | none => false
      | some _ => false
    | _ => false
  | .brk => fun s => match s with
    | .Break _ => true
    | _ => false
  | .cnt => fun s => match s with
    | .Continue _ => true
    | _ => false
  | .pass => fun s => match s with
    | .Pass _ => true
    | _ => false
  | .try_ b hs => fun s => match s with
    | .Try body hds orelse fin _ => orelse.isEmpty && fin.isEmpty && !hds.isEmpty && (mSs cx b body && mHd cx hs hds)
    | _ => false
def mSs (cx : Cfx) : Ss → List Stmt → Bool
  | .nil => fun l => l.isEmpty
  | .cons s ss => fun l => match l with
    | x :: l => mS cx s x && mSs cx ss l
    | [] => false
  | .kput i es d a ss => fun l => match l with
    | s1 :: l => (match l with
      | s2 :: l => (match s1 with
        | .Assign tgs e1 p1 => match tgs with
          | [tg] => match tg with
            | .Name x _ => match e1 with
              | .Tuple xs _ _ => locB cx.cf i x && decide (xs.length ≤ 1000) && mEs es cx.cf xs && (match s2 with
                | .Assign tgs e2 _ => match tgs with
                  | [tg] => match tg with
                    | .Subscript o r _ => match r with
                      | .Name y _ => decide (y = x) && varB cx.cf i y && noComp e2 && (mE d cx.cf o && mE a cx.cf e2)
                      | _ => false
                    | _ => false
                  | _ => false
                | _ => false)
              | _ => false
            | _ => false
          | _ => false
        | _ => false) && mSs cx ss l
      | [] => false)
    | [] => false
def mHd (cx : Cfx) : Hs → List ExceptHandler → Bool
  | .nil => fun l => l.isEmpty
  | .cons ks i b hs => fun l => match l with
    | h :: l => (match h with
      | .ExceptHandler ty nm suite _ => match ty with
        | some ty => match ty with
          | .Name x _ => match nm with
            | some n => match suite with
              | [st] => match st with
                | .Return v _ => match v with
                  | some e => glB cx.cf x && cx.hd.contains (x, ks) && locL cx.cf i n && !(n == ("__debug__" : Str)) && !(n == ("__classdict__" : Str)) && (match b with
                    | .cons (.ret a) .nil => mH cx n ks a e
                    | _ => false)
                  | none => false
                | _ => false
              | _ => false
            | none => false
          | _ => false
        | none => false) && mHd cx hs l
    | [] => false
end

structure GoodX (cx : Cfx) (et : ETab) (call : Nat → List C → Hc → R C) (sub : Nat → Str → Option Bool) (k : Nat) (X : Cx) (W : WX) : Prop where
  base : Good cx.cf et call k X W
  tab : Tab X.prog X.w X.K X.mg X.base k cx et sub
  stack : X.stack = X.env :: X.outer
  frame : X.env.frame = some X.env.locals
  bk : X.env.blockKind = .function
  po : PassesOwn (model X.prog X.w) X.A X.env X.xe
  hot : ∀ x, cx.hot.contains x = true → 1 ≤ k ∧ ∃ f fd st y A B, HotF X.K X.mg et sub x f fd st y A B

section
variable {cx : Cfx} {et : ETab} {call : Nat → List C → Hc → R C} {sub : Nat → Str → Option Bool} {w : Nat} {k : Nat} {X : Cx} {W : WX}
theorem GoodX.tr (g : GoodX cx et call sub k X W) {W' : WX} {pn : List (Addr × Obj)} {xe : Value → Shared → Prop} (tk : Takes (X.tr pn xe) W') (po : PassesOwn (model X.prog X.w) X.A X.env xe) : GoodX cx et call sub k (X.tr pn xe) W' :=
  ⟨⟨g.base.N, g.base.nd, g.base.kind, g.base.fnc, g.base.sk, g.base.calm, g.base.room, g.base.gu, tk, g.base.bn, g.base.gcd, g.base.kd, g.base.con, g.base.fn⟩, g.tab, g.stack, g.frame, g.bk, po, g.hot⟩

/-! ### clauses -/
mutual
theorem mH_ok (g : GoodX cx et call sub k X W) {i : Nat} {n : Str} {ks : List Nat} {a' : Addr} {oe : Obj} {cls : Value} {d : Option Addr} {pn : List (Addr × Obj)} {kk : Nat} {xs : List C} (hz : Zc cls d oe) (hf : ∃ vs, oe.data = .fields vs) (hi : X.N[i]? = some n) (hln : X.env.kindOf n = some .local) (hd : (n == ("__debug__" : Str)) = false) (hcd : (n == ("__classdict__" : Str)) = false)
    (hk : ks.contains kk = true) : ∀ (e : E) (ex : Expr), mH cx n ks e ex = true → PE (X.suite a' ((a', oe) :: pn)) ex (tH et X.K i a' cls d kk xs (E.ev call sub w (some (kk, xs)) e))
  | .con c, ex, h => by
    cases ex <;> try (cases h; done)
    rename_i cst _ _
    replace h : conIs cst c = true := h
    refine h_of ?_
    cases cst <;> cases c <;> try (cases h; done)
    · exact sE_const pe_non fun _ _ => rfl
    · rename_i b1 b2
      obtain rfl : b1 = b2 := beq_iff_eq.mp h
      exact sE_const pe_bl fun _ _ => rfl
    · rename_i b1 b2
      obtain rfl : b1 = b2 := beq_iff_eq.mp h
      exact sE_const pe_int fun _ _ => rfl
    · rename_i b1 b2
      obtain rfl : b1 = b2 := beq_iff_eq.mp h
      exact sE_const pe_str fun _ _ => rfl
  | .excf j, ex, h => by
    cases ex <;> try (cases h; done)
    rename_i o f p
    cases o <;> try (cases h; done)
    rename_i x p1
    obtain ⟨h1, h2⟩ := two h
    obtain rfl : x = n := beq_iff_eq.mp h1
    refine h_fld g.tab hz hf hi hln hd hcd fun f' hf' => ?_
    have := List.all_eq_true.mp h2 kk (by simpa using hk)
    rw [hf'] at this
    exact beq_iff_eq.mp this
  | .excis y, ex, h => by
    cases ex <;> try (cases h; done)
    rename_i fn args kws pos
    cases fn <;> try (cases h; done)
    rename_i f p
    match args, h with
    | [], h => cases h
    | [l], h =>
      cases l <;> try (cases h; done)
      rename_i x px
      obtain ⟨h, h5⟩ := two h
      obtain ⟨h, h4⟩ := two h
      obtain ⟨h, h3⟩ := two h
      obtain ⟨h1, h2⟩ := two h
      obtain rfl : x = n := beq_iff_eq.mp h2
      obtain rfl : f = y := beq_iff_eq.mp h3
      obtain ⟨q1, q2, q3⟩ := g.base.gl h4
      obtain ⟨k1, ff, fd, st, y', A, B, hF⟩ := g.hot _ h5
      cases kws with
      | cons _ _ => cases h1
      | nil => exact h_hot g.tab hz hf hi hln hd hcd (L2H.roomH_mark (g.base.room.mono k1) _) q1 q2 hF
    | _ :: _ :: _ :: _, h => cases h
    | [l, r], h =>
      cases l <;> try (cases h; done)
      cases r <;> try (cases h; done)
      rename_i x px z pz
      obtain ⟨h, h7⟩ := two h
      obtain ⟨h, h6⟩ := two h
      obtain ⟨h, h5⟩ := two h
      obtain ⟨h, h4⟩ := two h
      obtain ⟨h, h3⟩ := two h
      obtain ⟨h1, h2⟩ := two h
      have := of_decide_eq_true h2
      subst this
      obtain rfl : x = n := beq_iff_eq.mp h4
      obtain rfl : z = y := beq_iff_eq.mp h5
      obtain ⟨f1, f2, f3, f4⟩ := g.base.free h3
      obtain ⟨q1, q2, q3⟩ := g.base.gl h6
      cases kws with
      | cons _ _ => cases h1
      | nil => exact h_is g.tab hz hf hi hln hd hcd f1 f2 q1 q2 h7
  | .andv a b, ex, h => by
    cases ex <;> try (cases h; done)
    rename_i op l p
    match l, h with
    | [], h => cases h
    | x :: l, h =>
      obtain ⟨h1, h23⟩ := two h
      have := of_decide_eq_true h1
      subst this
      obtain ⟨h2, h3⟩ := two h23
      obtain ⟨y, r, rfl, hb⟩ := bool_tail (X := X.suite a' ((a', oe) :: pn)) h3 fun e he => mH_ok g (a' := a') (oe := oe) (pn := pn) (xs := xs) hz hf hi hln hd hcd hk b e he
      exact h_and (mH_ok g hz hf hi hln hd hcd hk a x h2) hb
  | .bi .repr (.cons a .nil), ex, h => by
    cases ex <;> try (cases h; done)
    rename_i fn args kws pos
    cases fn <;> try (cases h; done)
    rename_i f p
    match args, h with
    | [], h => cases h
    | _ :: _ :: _, h => cases h
    | [l], h =>
      obtain ⟨h, h5⟩ := two h
      obtain ⟨h, h4⟩ := two h
      obtain ⟨h, h3⟩ := two h
      obtain ⟨h1, h2⟩ := two h
      have := of_decide_eq_true h2
      subst this
      obtain ⟨f1, f2, f3, f4⟩ := g.base.free h3
      cases kws with
      | cons _ _ => cases h1
      | nil => exact h_repr g.base.gu g.base.units f1 f2 (star_of h4) (mH_ok g hz hf hi hln hd hcd hk a l h5)
  | .lst es, ex, h => by
    cases ex <;> try (cases h; done)
    exact h_lst (mHs_ok g hz hf hi hln hd hcd hk es _ h)
  | .var _, ex, h => by cases h
  | .glob _ _, ex, h => by cases h
  | .bin _ _ _, ex, h => by cases h
  | .neg _, ex, h => by cases h
  | .notv _, ex, h => by cases h
  | .cmp _ _ _, ex, h => by cases h
  | .chain _ _ _ _ _, ex, h => by cases h
  | .orv _ _, ex, h => by cases h
  | .ite _ _ _, ex, h => by cases h
  | .tup _, ex, h => by cases h
  | .idx _ _, ex, h => by cases h
  | .slc _ _ _, ex, h => by cases h
  | .call _ _, ex, h => by cases h
  | .callk _ _ _ _, ex, h => by cases h
  | .isi _ _, ex, h => by cases h
  | .pop _, ex, h => by cases h
  | .revs _, ex, h => by cases h
  | .comp _ _ _ _, ex, h => by cases h
  | .bi .repr .nil, ex, h => by cases h
  | .bi .repr (.cons _ (.cons _ _)), ex, h => by cases h
  | .bi .len _, ex, h => by cases h
  | .bi .abs _, ex, h => by cases h
  | .bi .max2 _, ex, h => by cases h
  | .bi .min2 _, ex, h => by cases h
  | .bi .sum _, ex, h => by cases h
  | .bi .gcd _, ex, h => by cases h
  | .bi .divmod _, ex, h => by cases h
  | .bi .tuple _, ex, h => by cases h
  | .bi .list _, ex, h => by cases h
  | .bi .maxL _, ex, h => by cases h
  | .bi .minL _, ex, h => by cases h
  | .bi .int _, ex, h => by cases h
  | .bi .bool _, ex, h => by cases h
  | .bi .all _, ex, h => by cases h
  | .bi .any _, ex, h => by cases h
theorem mHs_ok (g : GoodX cx et call sub k X W) {i : Nat} {n : Str} {ks : List Nat} {a : Addr} {oe : Obj} {cls : Value} {d : Option Addr} {pn : List (Addr × Obj)} {kk : Nat} {xs : List C} (hz : Zc cls d oe) (hf : ∃ vs, oe.data = .fields vs) (hi : X.N[i]? = some n) (hln : X.env.kindOf n = some .local) (hd : (n == ("__debug__" : Str)) = false) (hcd : (n == ("__classdict__" : Str)) = false)
    (hk : ks.contains kk = true) : ∀ (es : Es) (l : List Expr), mHs cx n ks es l = true → PA (X.suite a ((a, oe) :: pn)) l (tHA et X.K i a cls d kk xs (Es.ev call sub w (some (kk, xs)) es))
  | .nil, l, h => by
    cases l with
    | nil => exact hA_nil
    | cons _ _ => cases h
  | .cons a es, l, h => by
    cases l with
    | nil => cases h
    | cons x l =>
      obtain ⟨h1, h2⟩ := two h
      obtain ⟨h2, h3⟩ := two h2
      exact hA_cons (star_of h1) (mH_ok g hz hf hi hln hd hcd hk a x h2) (mHs_ok g hz hf hi hln hd hcd hk es l h3)
end
end
end Sh
set_option Elab.async false
set_option linter.all false
set_option autoImplicit false
set_option maxRecDepth 100000
set_option maxHeartbeats 8000000
/-! Sh, part M: statements. -/
namespace Sh
open PySem PySem.Spec PyProof.Rows L2

section
variable {cx : Cfx} {et : ETab} {call : Nat → List C → Hc → R C} {sub : Nat → Str → Option Bool} {w : Nat} {k : Nat} {X : Cx} {W : WX}
theorem Good.locL {cf : Cfg} (g : Good cf et call k X W) {i : Nat} {x : Str} (h : locL cf i x = true) : X.N[i]? = some x ∧ Loc X.env.scope x ∧ X.env.scope.names.lookup x = some .local ∧ X.N.Nodup := by
  obtain ⟨h1, h2⟩ := two h
  have q : X.env.scope.names.lookup x = cf.kind x := g.kind x
  have h3 := q.trans (beq_iff_eq.mp h2)
  exact ⟨by rw [g.N]; exact beq_iff_eq.mp h1, .inl h3, h3, by rw [g.N]; exact g.nd⟩
theorem locK (g : GoodX cx et call sub k X W) {i : Nat} {n : Str} (h : locL cx.cf i n = true) : X.N[i]? = some n ∧ X.env.kindOf n = some .local := by
  obtain ⟨q1, q2, q3, q4⟩ := g.base.locL h
  exact ⟨q1, q3⟩
theorem mHd_ok (g : GoodX cx et call sub k X W) : ∀ (hs : Hs) (l : List ExceptHandler), mHd cx hs l = true → ∃ L, HdsAs X l L ∧
    ∀ (D : Ends) (kk : Nat) (xs : List C) (sl : Sl) (h : Hc) (m : List Addr) (H : Hp) (σ : L2.St) (cls : Value) (d : Option Addr), Rl X.K m h H → RS X.K m H sl σ → RX et X.K m H kk xs cls d → PostS et X.K W D m H (Hs.ev call sub w hs kk xs sl h) → wAsM X.K W D L cls d σ H
  | .nil, l, h => by
    cases l with
    | cons _ _ => cases h
    | nil => exact ⟨[], .nil, fun D kk xs sl h m H σ cls d rl rs rx p => p m H σ cls d Ext.refl rl rs rx⟩
  | .cons ks i b hs, l, h => by
    cases l with
    | nil => cases h
    | cons hd l =>
      obtain ⟨h1, h2⟩ := two h
      obtain ⟨L, hL, ih⟩ := mHd_ok g hs l h2
      cases hd with
      | ExceptHandler ty nm suite pos' =>
        cases ty with
        | none => cases h1
        | some ty =>
          cases ty <;> try (cases h1; done)
          rename_i x np
          cases nm with
          | none => cases h1
          | some n =>
            match suite, h1 with
            | [], h1 => cases h1
            | _ :: _ :: _, h1 => cases h1
            | [st], h1 =>
              cases st <;> try (cases h1; done)
              rename_i v rp
              cases v with
              | none => cases h1
              | some e =>
                have q6 := (two h1).2
                replace h1 := (two h1).1
                have q5 := (two h1).2
                replace h1 := (two h1).1
                have q4 := (two h1).2
                replace h1 := (two h1).1
                have q3 := (two h1).2
                replace h1 := (two h1).1
                have q2 := (two h1).2
                replace h1 := (two h1).1
                have q1 := h1
                clear h1
                obtain ⟨f1, f2, f3⟩ := g.base.gl q1
                obtain ⟨c, c1, c2⟩ := g.tab.hd x ks q2
                obtain ⟨e1, e2⟩ := locK g q3
                cases b with
                | nil => cases q6
                | kput _ _ _ _ _ => cases q6
                | cons s0 ss =>
                  cases s0 <;> try (cases q6; done)
                  rename_i a0
                  cases ss with
                  | kput _ _ _ _ _ => cases q6
                  | cons _ _ => cases q6
                  | nil =>
                    refine ⟨(c, i, fun a cls d => fun D σ H => ∃ kk xs m sl h, ks.contains kk = true ∧ HotI et X.K i a cls d kk xs m sl h H σ ∧ PostS et X.K (fun _ _ _ _ => False) D m H ((E.ev call sub w (some (kk, xs)) a0 sl h).th sl fun c h1 => .ret c h1)) :: L, .cons e1 e2 ⟨f1, f2, c1⟩ (fun a oe cls d pn hz hf => ?_) hL, ?_⟩
                    · refine ⟨fun pins s σ H D I ⟨kk, xs, m, sl, h, hk, q, p⟩ => ?_⟩
                      refine (pss_one (ps_ret (mH_ok (w := w) g (kk := kk) (xs := xs) hz hf e1 e2 (noB q4) (noB q5) hk a0 e q6))).run pins s σ H D I ⟨m, sl, h, q, ?_⟩
                      exact PostS.th p q.rs fun c h1 e1 m1 H1 v x1 rl1 rv1 p1 => p1 m1 H1 v Ext.refl rl1 rv1
                    · intro D kk xs sl h m H σ cls d rl rs rx p
                      obtain ⟨A, fs, vs, r1, r2, r3, r4, r5⟩ := id rx
                      subst r2
                      have p : PostS et X.K W D m H (if ks.contains kk then
                          (match Ss.ev call sub w (.cons (.ret a0) .nil) (some (kk, xs)) (sl.set i none) h with
                            | .nx sl2 h2 => .nx (sl2.set i none) h2
                            | .ret c h2 => .ret c h2
                            | .bk sl2 h2 => .bk (sl2.set i none) h2
                            | .ct sl2 h2 => .ct (sl2.set i none) h2
                            | _ => .bad)
                        else Hs.ev call sub w hs kk xs sl h) := p
                      refine ⟨ks.contains kk, c2 _ _ _ r1, fun hk a na => ?_, fun hk => ?_⟩
                      · rw [if_pos hk] at p
                        refine ⟨kk, xs, m, sl.set i none, h, hk, ⟨rl, rs.setNone i _, rx, fun hi => List.getElem?_set_self (by simpa using hi)⟩, ?_⟩
                        have e0 : Ss.ev call sub w (.cons (.ret a0) .nil) (some (kk, xs)) (sl.set i none) h = ((E.ev call sub w (some (kk, xs)) a0 (sl.set i none) h).th (sl.set i none) fun c h1 => RS'.ret c h1).th fun sl1 h1 => .nx sl1 h1 := rfl
                        rw [e0] at p
                        cases e3 : E.ev call sub w (some (kk, xs)) a0 (sl.set i none) h with
                        | ok c h1 => rw [e3] at p; exact p
                        | err _ _ _ => rw [e3] at p; exact False.elim p
                        | bad => rw [e3] at p; exact False.elim p
                      · rw [hk, if_neg Bool.false_ne_true] at p
                        exact ih D kk xs sl h m H σ (.ref A) d rl rs rx p

/-! ### statements -/
section
variable {tg e c v : Expr} {body orelse : List Stmt} {pos : Pos} {fe fv : Sl → Hc → R C} {fg : C → Sl → Hc → R Sl} {ft : Sl → Hc → R Bool} {fa fb : Sl → Hc → RS'} {fs : Sl → Hc → R (List C)}
theorem sw_cell (g : GoodX cx et call sub k X W) {l : Nat} (h : (noComp e || noSw cx.cf tg e) = true) : swapsWith e (some tg) l X.env = pure false := by
  rcases Bool.or_eq_true_iff.mp h with h | h
  · exact swaps_no h
  · cases e <;> try (cases tg <;> cases h; done)
    rename_i elt gens scope pos
    cases tg <;> try rfl
    rename_i y py
    have h : (!(cx.cf.kind y == some .local)) = true := h
    have hk : (X.env.kindOf y == some .local) = false := by
      rw [g.base.kind y]
      exact noB h
    unfold swapsWith
    simp only [hk]
    simp
theorem sS_asg (g : GoodX cx et call sub k X W) (h1 : ∀ l, swapsWith e (some tg) l X.env = pure false) (h2 : swN cx.cf tg e = true) (h3 : noStar tg = true) (he : PE X e (tE et X.K W fe)) (hg : PG X tg (tG et X.K fg)) : PS X (.Assign [tg] e pos) (tS et X.K W fun sl h => (fe sl h).th sl fun c h1 => (fg c sl h1).noerr.th sl fun sl1 h2 => .nx sl1 h2) :=
  (ps_asg he hg (h1 _) (sw_none g.base.kind h2) (by rw [asg_of h3]; rfl)).imp fun D σ H ⟨m, sl, h, rl, rs, p⟩ => ⟨m, sl, h, rl, rs, PostS.th p rs fun c h1 e1 m1 H1 v x1 rl1 rv1 p1 =>
    ⟨m1, sl, h1, c, rl1, rs.ext x1, rv1, Post.noerr (PostS.th (rel := relS X.K) (Q := D.nx) p1 (rs.ext x1) fun sl2 h2 e2 m2 H2 σ2 x2 rl2 rs2 p2 => p2 m2 H2 σ2 Ext.refl rl2 rs2)⟩⟩
theorem sS_par (g : GoodX cx et call sub k X W) {i j : Nat} {x y : Str} {a b : Expr} {px py pt pt2 : Pos} {kt k2 : Nat} (hp : parB px py x y a b = true) (hij : i ≠ j) (hx : locL cx.cf i x = true) (hy : locL cx.cf j y = true) (ha : PE X a (tE et X.K W fe)) (hb : PE X b (tE et X.K W fv)) :
    PS X (.Assign [.Tuple [.Name x px, .Name y py] kt pt] (.Tuple [a, b] k2 pt2) pos) (tS et X.K W fun sl h => (fe sl h).th sl fun x h1 => (fv sl h1).th sl fun y h2 => .nx ((sl.set i (some x)).set j (some y)) h2) := by
  obtain ⟨q1, q2, q3, q4⟩ := g.base.locL hx
  obtain ⟨r1, r2, r3, r4⟩ := g.base.locL hy
  have hp' := hp
  obtain ⟨hp', _⟩ := two hp'
  obtain ⟨hp', _⟩ := two hp'
  obtain ⟨hp', _⟩ := two hp'
  obtain ⟨hp', _⟩ := two hp'
  obtain ⟨s1, s2⟩ := two hp'
  refine (ps_par g.base.calm q4 q1 r1 hij q3 r3 (pa_cons ha (pa_cons hb pa_nil (star_of s2)) (star_of s1)) (sw_some hp g.bk q3 r3) rfl).imp fun D σ H ⟨m, sl, h, rl, rs, p⟩ => ?_
  refine ⟨m, sl, h, rl, rs, PostS.th p rs fun x h1 e1 m1 H1 v x1 rl1 rv1 p1 => ⟨m1, sl, h1, rl1, rs.ext x1, PostS.th p1 (rs.ext x1) fun y h2 e2 m2 H2 u x2 rl2 rv2 p2 => ⟨v, u, rfl, ?_⟩⟩⟩
  exact p2 m2 H2 _ Ext.refl rl2 ((((rs.ext x1).ext x2).set i (RV.ext x2 rv1)).set j rv2)
theorem ip_mulX : PIp X .Mult (rI CMulX fun i j => .int (i * j)) := fun pins s σ H x y v u Q I r1 r2 h => (opI (X := X) (f := inplaceOp .Mult) fun _ _ _ _ _ _ _ hc q => imul_int q hc.ok) pins s σ H x y v u Q I r1 r2 h
theorem aug_ok (o : Op) : ∃ ti, PIp X (opr o) ti ∧ ∀ (Wx : Value → Option Addr → Hp → Prop) (m : List Addr) (H : Hp) (h : Hc) (i j : Int) (Q : VK), Rl X.K m h H → Post et X.K Wx m H (relV X.K) Q (augC o i j h) → ti (.int i) (.int j) H Q := by
  cases o with
  | add => exact ⟨_, ip_add, fun Wx m H h i j Q rl p => ⟨i, j, rfl, rfl, p m H _ Ext.refl rl rfl⟩⟩
  | sub => exact ⟨_, ip_sub, fun Wx m H h i j Q rl p => ⟨i, j, rfl, rfl, p m H _ Ext.refl rl rfl⟩⟩
  | mul =>
    refine ⟨_, ip_mulX, fun Wx m H h i j Q rl p => ?_⟩
    unfold augC at p
    simp only at p
    split at p
    · exact False.elim p
    · rename_i hb
      have hb' : tooBig i = false ∧ tooBig j = false := by
        cases h1 : tooBig i <;> cases h2 : tooBig j <;> simp_all
      exact ⟨i, j, rfl, rfl, mulx_ok (a := 60000) (b := 60000) (small_of hb'.1) (small_of hb'.2) (by omega), p m H _ Ext.refl rl rfl⟩
  | band => exact ⟨_, fun pins s σ H x y v u Q I r1 r2 h => iop_and pins s σ H x y v u Q I r1 r2 h, fun Wx m H h i j Q rl p => ⟨i, j, rfl, rfl, p m H _ Ext.refl rl rfl⟩⟩
  | bor => exact ⟨_, fun pins s σ H x y v u Q I r1 r2 h => iop_or pins s σ H x y v u Q I r1 r2 h, fun Wx m H h i j Q rl p => ⟨i, j, rfl, rfl, p m H _ Ext.refl rl rfl⟩⟩
  | shr =>
    refine ⟨_, fun pins s σ H x y v u Q I r1 r2 h => iop_shr pins s σ H x y v u Q I r1 r2 h, fun Wx m H h i j Q rl p => ?_⟩
    unfold augC at p
    simp only at p
    split at p
    · rename_i hz
      exact ⟨i, j, rfl, rfl, hz.1, p m H _ Ext.refl rl rfl⟩
    · exact False.elim p
  | shl => exact ⟨fun _ _ _ _ => False, fun _ _ _ _ _ _ _ _ _ _ _ _ h => h.elim, fun Wx m H h i j Q rl p => p⟩
  | div => exact ⟨fun _ _ _ _ => False, fun _ _ _ _ _ _ _ _ _ _ _ _ h => h.elim, fun Wx m H h i j Q rl p => p⟩
  | mod => exact ⟨fun _ _ _ _ => False, fun _ _ _ _ _ _ _ _ _ _ _ _ h => h.elim, fun Wx m H h i j Q rl p => p⟩
  | pow => exact ⟨fun _ _ _ _ => False, fun _ _ _ _ _ _ _ _ _ _ _ _ h => h.elim, fun Wx m H h i j Q rl p => p⟩
theorem sS_aug (g : GoodX cx et call sub k X W) {i : Nat} {x : Str} {o : Op} {pos' : Pos} (hx : locB cx.cf i x = true) (he : PE X e (tE et X.K W fe)) : PS X (.AugAssign (.Name x pos') (opr o) e pos) (tS et X.K W fun sl h => match sl[i]? with
    | some (some x) => (fe sl h).th sl fun y h1 => (match x, y with
      | .int a, .int b => (augC o a b h1).th sl fun z h2 => .nx (sl.set i (some z)) h2
      | _, _ => .bad)
    | _ => .bad) := by
  obtain ⟨q1, q2, q3, q4⟩ := g.base.loc hx
  obtain ⟨ti, ho, ok⟩ := aug_ok (X := X) (et := et) o
  refine (ps_aug q4 q1 q2 he ho q3).imp fun D σ H ⟨m, sl, h, rl, rs, p⟩ => ?_
  dsimp only at p
  cases e1 : sl[i]? with
  | none => rw [e1] at p; exact False.elim p
  | some o' =>
    cases o' with
    | none => rw [e1] at p; exact False.elim p
    | some x =>
      rw [e1] at p
      obtain ⟨v, s1, s2⟩ := rs.at_ i x e1
      refine ⟨v, s1, m, sl, h, rl, rs, PostS.th p rs fun y h1 e2 m1 H1 u x1 rl1 rv1 p1 => ?_⟩
      cases x <;> cases y <;> try (exact False.elim p1)
      rename_i a b
      cases s2
      cases rv1
      exact ok (fun c d H' => W c d σ H') m1 H1 h1 a b _ rl1 (PostS.th p1 (rs.ext x1) fun z h2 e3 m2 H2 t x2 rl2 rv2 p2 => p2 m2 H2 _ Ext.refl rl2 (((rs.ext x1).ext x2).set i rv2))
theorem sS_ifs (hc : PT X c (tT et X.K W ft)) (ha : PSs X body (tS et X.K W fa)) (hb : PSs X orelse (tS et X.K W fb)) : PS X (.If c body orelse pos) (tS et X.K W fun sl h => (ft sl h).th sl fun k h1 => if k then fa sl h1 else fb sl h1) := by
  refine (ps_if hc ha hb).imp fun D σ H ⟨m, sl, h, rl, rs, p⟩ => ⟨m, sl, h, rl, rs, PostS.th p rs fun k h1 e1 m1 H1 v x1 rl1 rv1 p1 => ?_⟩
  cases rv1
  cases k with
  | true => exact ⟨m1, sl, h1, rl1, rs.ext x1, p1⟩
  | false => exact ⟨m1, sl, h1, rl1, rs.ext x1, p1⟩
theorem sS_ret (he : PE X e (tE et X.K W fe)) : PS X (.Return (some e) pos) (tS et X.K W fun sl h => (fe sl h).th sl fun c h1 => .ret c h1) :=
  (ps_ret he).imp fun D σ H ⟨m, sl, h, rl, rs, p⟩ => ⟨m, sl, h, rl, rs, PostS.th p rs fun c h1 e1 m1 H1 v x1 rl1 rv1 p1 => p1 m1 H1 v Ext.refl rl1 rv1⟩
theorem sS_expr (h1 : noComp e = true) (he : PE X e (tE et X.K W fe)) : PS X (.Expr e pos) (tS et X.K W fun sl h => (fe sl h).th sl fun c h1 => .nx sl h1) :=
  (ps_expr he (swaps_no h1)).imp fun D σ H ⟨m, sl, h, rl, rs, p⟩ => ⟨m, sl, h, rl, rs, PostS.th p rs fun c h1 e1 m1 H1 v x1 rl1 rv1 p1 => p1 m1 H1 σ Ext.refl rl1 (rs.ext x1)⟩
end
theorem sS_app {o : Expr} {apos cpos : Pos} {fo fa : Sl → Hc → R C} {e : Expr} {pos : Pos} (hb : isName o = true) (hl : (apos.endLine == cpos.line) = true) (hs : noStar e = true) (ho : PE X o (tE et X.K W fo)) (ha : PE X e (tE et X.K W fa)) :
    PS X (.Expr (.Call (.Attribute o "append" apos) [e] [] cpos) pos) (tS et X.K W fun sl h => (fo sl h).th sl fun x h1 => (match x with
    | .ref n => (fa sl h1).th sl fun y h2 => (match h2[n]? with
      | some xs => if xs.length < lineN then .nx sl (h2.set n (xs ++ [y])) else .bad
      | none => .bad)
    | _ => .bad)) := by
  have hA : PA X [e] (tCons (tE et X.K W fa) tNil) := pa_cons ha pa_nil (star_of hs)
  refine (ps_expr (pe_bm PySem.F.plainAttrs_list PySem.F.slot_list_append PySem.F.type_list_append mt_append ho hA (base_of hb) (by rw [star_of hs]; rfl) hl (star_of hs) rfl) rfl).imp fun D σ H ⟨m, sl, h, rl, rs, p⟩ => ⟨m, sl, h, rl, rs, PostS.th p rs fun x h1 e1 m1 H1 v x1 rl1 rv1 p1 => ?_⟩
  cases x <;> try (exact False.elim p1)
  rename_i n
  obtain ⟨a, q1, rfl, qL⟩ := rv1
  obtain ⟨cs0, vs0, _, q2, _⟩ := rl1.get q1 qL
  refine ⟨.inl ⟨rfl, vs0, SqL.of q2⟩, m1, sl, h1, rl1, rs.ext x1, PostS.th p1 (rs.ext x1) fun y h2 e2 m2 H2 u x2 rl2 rv2 p2 => ?_⟩
  have q1' := x2.pre _ _ q1
  obtain ⟨cs, vs, e3, q3, q4⟩ := rl2.get q1' (x2.kl _ qL)
  rw [e3] at p2
  dsimp only at p2
  split at p2
  · rename_i hz
    have ex : Ext X.K m2 H2 m2 (upd H2 a (.lst (vs ++ [u]))) := Ext.write (List.mem_of_getElem? q1') q3
    refine ⟨a, vs, u, rfl, rfl, q3, by rw [← q4.length]; exact line_lt hz, ?_⟩
    exact p2 m2 _ σ ex (rl2.write q1' q3 (RVs.append q4 (RVs.one rv2))) (((rs.ext x1).ext x2).ext ex)
  · exact False.elim p2
theorem sS_ext {o : Expr} {apos cpos : Pos} {fo fa : Sl → Hc → R C} {e : Expr} {pos : Pos} (hb : isName o = true) (hl : (apos.endLine == cpos.line) = true) (hs : noStar e = true) (ho : PE X o (tE et X.K W fo)) (ha : PE X e (tE et X.K W fa)) :
    PS X (.Expr (.Call (.Attribute o "extend" apos) [e] [] cpos) pos) (tS et X.K W fun sl h => (fo sl h).th sl fun x h1 => (match x with
    | .ref n => (fa sl h1).th sl fun y h2 => (match y with
      | .ref m => (match h2[n]?, h2[m]? with
        | some xs, some ys => if xs.length + ys.length ≤ lineN then .nx sl (h2.set n (xs ++ ys)) else .bad
        | _, _ => .bad)
      | _ => .bad)
    | _ => .bad)) := by
  have hA : PA X [e] (tCons (tE et X.K W fa) tNil) := pa_cons ha pa_nil (star_of hs)
  refine (ps_expr (pe_bm PySem.F.plainAttrs_list PySem.F.slot_list_extend PySem.F.type_list_extend mt_extend ho hA (base_of hb) (by rw [star_of hs]; rfl) hl (star_of hs) rfl) rfl).imp fun D σ H ⟨m, sl, h, rl, rs, p⟩ => ⟨m, sl, h, rl, rs, PostS.th p rs fun x h1 e1 m1 H1 v x1 rl1 rv1 p1 => ?_⟩
  cases x <;> try (exact False.elim p1)
  rename_i n
  obtain ⟨a, q1, rfl, qL⟩ := rv1
  obtain ⟨cs0, vs0, _, q2, _⟩ := rl1.get q1 qL
  refine ⟨.inl ⟨rfl, vs0, SqL.of q2⟩, m1, sl, h1, rl1, rs.ext x1, PostS.th p1 (rs.ext x1) fun y h2 e2 m2 H2 u x2 rl2 rv2 p2 => ?_⟩
  cases y <;> try (exact False.elim p2)
  rename_i mm
  obtain ⟨b, r1, rfl, r1L⟩ := rv2
  have q1' := x2.pre _ _ q1
  obtain ⟨cs, vs, e3, q3, q4⟩ := rl2.get q1' (x2.kl _ qL)
  obtain ⟨ds, ws, e4, r3, r4⟩ := rl2.get r1 r1L
  dsimp only at p2
  rw [e3, e4] at p2
  dsimp only at p2
  split at p2
  · rename_i hz
    have ex : Ext X.K m2 H2 m2 (upd H2 a (.lst (vs ++ ws))) := Ext.write (List.mem_of_getElem? q1') q3
    refine ⟨a, b, vs, ws, rfl, rfl, q3, r3, by rw [← q4.length, ← r4.length]; exact line_le hz, ?_⟩
    exact p2 m2 _ σ ex (rl2.write q1' q3 (RVs.append q4 r4)) (((rs.ext x1).ext x2).ext ex)
  · exact False.elim p2
theorem sS_asg3 {i j kk : Nat} {x y z : Str} {p1 p2 p3 pos : Pos} {e : Expr} {fe : Sl → Hc → R C} (g : GoodX cx et call sub k X W) (hx : locB cx.cf i x = true) (hy : locB cx.cf j y = true) (hz : locB cx.cf kk z = true) (he : PE X e (tE et X.K W fe)) :
    PS X (.Assign [.Name x p1, .Name y p2, .Name z p3] e pos) (tS et X.K W fun sl h => (fe sl h).th sl fun c h1 => .nx (((sl.set i (some c)).set j (some c)).set kk (some c)) h1) := by
  obtain ⟨a1, a2, a3, a4⟩ := g.base.loc hx
  obtain ⟨b1, b2, b3, b4⟩ := g.base.loc hy
  obtain ⟨c1, c2, c3, c4⟩ := g.base.loc hz
  refine (ps_asg3 he (pg_name a4 a1 a2 a3) (pg_name b4 b1 b2 b3) (pg_name c4 c1 c2 c3)).imp fun D σ H ⟨m, sl, h, rl, rs, p⟩ => ⟨m, sl, h, rl, rs, PostS.th p rs fun c h1 e1 m1 H1 v x1 rl1 rv1 p1 => ?_⟩
  exact p1 m1 H1 _ Ext.refl rl1 ((((rs.ext x1).set i rv1).set j rv1).set kk rv1)
theorem get_lst : PGet X (rIxL X.K) := by
  intro pins s σ H x y v u Q I rx ry h
  obtain ⟨p, xs, i, z, rfl, rfl, hq, he, q⟩ := h
  cases rx
  obtain ⟨t, rfl⟩ := ry
  obtain ⟨its, r, pl, hz⟩ := I.list hq
  obtain ⟨j, h1, h2, h3, h4, h5⟩ := atI_get he
  obtain ⟨w, ew, rw'⟩ := r.get h2
  have hl := r.length
  have hn := line63
  have done_ : EP X pins σ Q w s := ⟨z, H, I, rw', q⟩
  by_cases h0 : 0 ≤ i
  · have hj : i.toNat = j := by
      rw [seqIndex_of h0 h5] at h1
      exact Option.some.inj h1
    exact wpAny_getItem_list pl.isList h0 (by omega) (by rw [hj]; simpa using ew) done_
  · have hj : (i + (its.toArray.size : Int)).toNat = j := by
      rw [seqIndex_neg (by omega) h4] at h1
      rw [List.size_toArray, ← hl]
      exact Option.some.inj h1
    exact wpAny_getItem_list_neg pl.isList (by omega) (by rw [List.size_toArray] <;> omega) (by omega) (by rw [hj]; simpa using ew) done_
theorem item_lst {Wx : Value → Option Addr → Hp → Prop} {m : List Addr} {H : Hp} {h : Hc} {n : Nat} {y : C} {v u : V} {Q : VK} (rl : Rl X.K m h H) (rx : RV X.K m H (.ref n) v) (ry : RV X.K m H y u) (p : Post et X.K Wx m H (relV X.K) Q (item (.ref n) y h)) : rIxL X.K v u H Q := by
  cases y <;> try (exact False.elim p)
  rename_i i
  unfold item at p
  simp only at p
  split at p
  · rename_i xs e1
    split at p
    · rename_i c e2
      obtain ⟨a, q1, rfl, qL⟩ := rx
      obtain ⟨vs, q2, q⟩ := rl.get' q1 qL e1
      have hl := q.length
      cases hj : ixC xs.length i with
      | none => rw [hj] at e2; cases e2
      | some j =>
        rw [hj] at e2
        have e3 : xs[j]? = some c := e2
        obtain ⟨w, w1, w2⟩ := q.get e3
        have e4 : atI vs i = some w := by
          unfold atI
          rw [← hl, ← ixC_eq, hj]
          exact w1
        exact ⟨a, vs, i, w, rfl, ry, SqL.of q2, e4, p m H _ Ext.refl rl w2⟩
    · exact False.elim p
  · exact False.elim p
theorem sS_augi {o i e : Expr} {op : Op} {tpos pos : Pos} {fo fi fe : Sl → Hc → R C} (hi : noSlice i = true) (ho : PE X o (tE et X.K W fo)) (hii : PE X i (tE et X.K W fi)) (he : PE X e (tE et X.K W fe)) :
    PS X (.AugAssign (.Subscript o i tpos) (opr op) e pos) (tS et X.K W fun sl h => (fo sl h).th sl fun x h1 => (fi sl h1).th sl fun y h2 => (match x with
    | .ref _ => (item x y h2).th sl fun old h3 => (fe sl h3).th sl fun v h4 => (match old, v with
      | .int a, .int b => (augC op a b h4).th sl fun new h5 => (setitem x y new h5).th sl fun _ h6 => .nx sl h6
      | _, _ => .bad)
    | _ => .bad)) := by
  obtain ⟨ti, hip, ok⟩ := aug_ok (X := X) (et := et) op
  have ha : ∀ ov iv new, augStore i ov iv new = (do holding [new, ov, iv] (setItem ov iv new); release [new, ov, iv] []; pure .next) := fun ov iv new => by
    cases i <;> first | rfl | cases hi
  refine (ps_augS ho hii get_lst he hip set_list ha).imp fun D σ H ⟨m, sl, h, rl, rs, p⟩ => ⟨m, sl, h, rl, rs, PostS.th p rs fun x h1 e1 m1 H1 v x1 rl1 rv1 p1 => ?_⟩
  refine ⟨m1, sl, h1, rl1, rs.ext x1, PostS.th p1 (rs.ext x1) fun y h2 e2 m2 H2 u x2 rl2 rv2 p2 => ?_⟩
  have rv1' := RV.ext x2 rv1
  cases x <;> try (exact False.elim p2)
  rename_i n
  have rs2 := (rs.ext x1).ext x2
  refine item_lst (Wx := fun c d H' => W c d σ H') rl2 rv1' rv2 (PostS.th p2 rs2 fun old h3 e3 m3 H3 t x3 rl3 rv3 p3 => ?_)
  refine ⟨m3, sl, h3, rl3, rs2.ext x3, PostS.th p3 (rs2.ext x3) fun b h4 e4 m4 H4 t4 x4 rl4 rv4 p4 => ?_⟩
  cases old <;> cases b <;> try (exact False.elim p4)
  rename_i ia ib
  cases (RV.ext x4 rv3)
  cases rv4
  have rs4 := (rs2.ext x3).ext x4
  refine ok (fun c d H' => W c d σ H') m4 H4 h4 ia ib _ rl4 (PostS.th p4 rs4 fun new h5 e5 m5 H5 t5 x5 rl5 rv5 p5 => ?_)
  have y5 := (x3.trans x4).trans x5
  refine setitem_ok (et := et) (W := fun c d H' => W c d σ H') m5 H5 h5 (.ref n) y new _ _ _ _ rl5 (RV.ext y5 rv1') (RV.ext y5 rv2) rv5 ?_
  exact PostS.th (rel := fun _ _ _ (_ : Unit) => True) (Q := fun _ H' => D.nx σ H') p5 (rs4.ext x5) fun _ h6 e6 m6 H6 _ x6 rl6 _ p6 => p6 m6 H6 σ Ext.refl rl6 ((rs4.ext x5).ext x6)
theorem sS_setc (g : GoodX cx et call sub k X W) {i : Nat} {a : E} {y : Str} {py spos : Pos} {e : Expr} (hc : ∃ elt gens scope pos, e = .ListComp elt gens scope pos ∧ (py.line == pos.line) = true ∧ (scope.names.any fun (n, k) => n == y && (k == .local || k == .cell)) = false) (hx : locL cx.cf i y = true) (h : mE a cx.cf e = true) :
    PS X (.Assign [.Name y py] e spos) (tS et X.K W fun sl h => (E.ev call sub w none a sl h).th sl fun c h1 => .nx (sl.set i (some c)) h1) := by
  obtain ⟨elt, gens, scope, pos, rfl, hl, ha⟩ := hc
  obtain ⟨q1, q2, q3, q4⟩ := g.base.locL hx
  cases a <;> try (cases h; done)
  case unk => exact ⟨fun pins s σ H D I ⟨m, sl, h, rl, rs, p⟩ => False.elim p⟩
  rename_i el p it t
  match gens, h with
  | [], h => cases h
  | _ :: _ :: _, h => cases h
  | [⟨tg, iter, ifs, asy⟩], h =>
    obtain ⟨h, h8⟩ := two h
    obtain ⟨h, h7⟩ := two h
    obtain ⟨h, h6⟩ := two h
    obtain ⟨h, h5⟩ := two h
    obtain ⟨h, h4⟩ := two h
    obtain ⟨h, h3⟩ := two h
    obtain ⟨h1, h2⟩ := two h
    have := of_decide_eq_true h1
    subst this
    obtain ⟨ok, ev⟩ := blk_ok g.base h3
    have gb := fun (s : Shared) (H : Hp) (C' : Addr) (cl : List (Str × Addr)) (fp : List Addr) => good_blk g.base ok.kind s H C' cl fp
    have hT : ∀ (s : Shared) (H : Hp) (C' : Addr) (cl : List (Str × Addr)) (fp : List Addr), PTs (X.blk s H scope (compEnvC scope cl C' X.env) fp) ifs (tT et X.K NoX (T.ev call sub w none t)) := fun s H C' cl fp => by
      cases ifs with
      | nil => exact pts_yes h7
      | cons c r =>
        cases r with
        | nil => exact pts_one (T.sound t _ _ _ (gb s H C' cl fp) c h7).1
        | cons _ _ => cases h7
    refine (ps_setLc (i := i) (wi := tI et X.K W (It.ev call sub w none it)) (g := tGv et X.K p.slots (Pt.put call sub w none p)) (tt := tT et X.K NoX (T.ev call sub w none t)) (te := tE et X.K NoX (E.ev call sub w none el)) g.base.calm q4 q1 q3 (sw_true g.base.sk q3 hl ha) (It.sound it cx.cf X W g.base tg iter (two h5).1 (two h5).2) ok
      (fun s H C' cl fp => flat_ok (gb s H C' cl fp) p tg h4 (fun _ hi => hi) h6) hT (fun s H C' cl fp => E.sound el _ _ _ (gb s H C' cl fp) elt h8) (Sh.fold_no h2)).imp fun D σ H ⟨m, sl, h, rl, rs, p0⟩ => ?_
    show tLc _ _ _ _ _ σ H fun x H1 => gName i x σ H1 D.nx
    rw [ev]
    refine lc_read (w := w) ⟨m, sl, h, rl, rs, PostS.th p0 rs fun c h1 e1 m1 H1 v x1 rl1 rv1 p1 => ?_⟩
    exact p1 m1 H1 _ Ext.refl rl1 ((rs.ext x1).set i rv1)
theorem Es.ev_len {cx' : Option (Nat × List C)} {sl : Sl} : ∀ {es : Es} {h h' : Hc} {xs : List C}, Es.ev call sub w cx' es sl h = .ok xs h' → xs.length = es.len
  | .nil, h, h', xs, e => by
    cases e
    rfl
  | .cons a es, h, h', xs, e => by
    have e : (E.ev call sub w cx' a sl h).bind (fun x h1 => (Es.ev call sub w cx' es sl h1).bind fun xs h2 => .ok (x :: xs) h2) = .ok xs h' := e
    cases e1 : E.ev call sub w cx' a sl h with
    | bad => rw [e1] at e; cases e
    | err _ _ _ => rw [e1] at e; cases e
    | ok x h1 =>
      rw [e1] at e
      have e : (Es.ev call sub w cx' es sl h1).bind (fun xs h2 => .ok (x :: xs) h2) = .ok xs h' := e
      cases e2 : Es.ev call sub w cx' es sl h1 with
      | bad => rw [e2] at e; cases e
      | err _ _ _ => rw [e2] at e; cases e
      | ok ys h2 =>
        rw [e2] at e
        cases e
        show ys.length + 1 = es.len + 1
        rw [Es.ev_len e2]
theorem var_vis (g : Good cx.cf et call k X W) {i : Nat} {x : Str} (h : varB cx.cf i x = true) (pos : Pos) : PE X (.Name x pos) (tVar i) := by
  obtain ⟨h, h4⟩ := two h
  obtain ⟨h, h3⟩ := two h
  obtain ⟨h1, h2⟩ := two h
  have hv : Vis X.env.scope x := by
    have q : ∀ y, X.env.scope.names.lookup y = cx.cf.kind y := g.kind
    obtain h2 | h2 := Bool.or_eq_true_iff.mp h2
    · obtain h2 | h2 := Bool.or_eq_true_iff.mp h2
      · exact .inl ((q x).trans (beq_iff_eq.mp h2))
      · exact .inr (.inl ((q x).trans (beq_iff_eq.mp h2)))
    · exact .inr (.inr ((q x).trans (beq_iff_eq.mp h2)))
  exact pe_var (by rw [g.N]; exact beq_iff_eq.mp h1) hv (noB h3) (noB h4)
mutual
theorem S.sound {X : Cx} {W : WX} (g : GoodX cx et call sub k X W) : ∀ (s : S) (st : Stmt), mS cx s st = true → PS X st (tS et X.K W (S.ev call sub w s none))
  | .asg p a, st, h => by
    cases st <;> try (cases h; done)
    rename_i tgs e pos
    match tgs, h with
    | [], h => cases h
    | _ :: _ :: _, h => cases h
    | [tg], h =>
      obtain ⟨h, h4⟩ := two h
      obtain ⟨h, h3⟩ := two h
      obtain ⟨h1, h2⟩ := two h
      obtain ⟨h4, h5⟩ := two h4
      exact sS_asg g (fun l => sw_cell g h1) h2 h3 (E.sound (sub := sub) (w := w) a _ _ _ g.base  e h5) (Pt.sound (sub := sub) (w := w) p _ _ _ g.base  tg h4)
  | .ext o a, st, h => by
    cases st <;> try (cases h; done)
    rename_i c pos
    cases c <;> try (cases h; done)
    rename_i fn args kws cpos
    cases fn <;> try (cases h; done)
    rename_i ob nm apos
    match args, h with
    | [], h => cases h
    | _ :: _ :: _, h => cases h
    | [e], h =>
      obtain ⟨h, h6⟩ := two h
      obtain ⟨h, h5⟩ := two h
      obtain ⟨h, h4⟩ := two h
      obtain ⟨h, h3⟩ := two h
      obtain ⟨h1, h2⟩ := two h
      obtain ⟨h6, h7⟩ := two h6
      have := of_decide_eq_true h2
      subst this
      cases kws with
      | cons _ _ => cases h1
      | nil => exact sS_ext h3 h4 h5 (E.sound (sub := sub) (w := w) o _ _ _ g.base ob h6) (E.sound (sub := sub) (w := w) a _ _ _ g.base e h7)
  | .asg3 i j kk a, st, h => by
    cases st <;> try (cases h; done)
    rename_i tgs e pos
    match tgs, h with
    | [], h => cases h
    | [_], h => cases h
    | [_, _], h => cases h
    | _ :: _ :: _ :: _ :: _, h => cases h
    | [t1, t2, t3], h =>
      cases t1 <;> try (cases h; done)
      cases t2 <;> try (cases h; done)
      cases t3 <;> try (cases h; done)
      obtain ⟨h, h4⟩ := two h
      obtain ⟨h, h3⟩ := two h
      obtain ⟨h1, h2⟩ := two h
      exact sS_asg3 g h1 h2 h3 (E.sound (sub := sub) (w := w) a _ _ _ g.base e h4)
  | .par i j a b, st, h => by
    cases st <;> try (cases h; done)
    rename_i tgs e pos
    match tgs, h with
    | [], h => cases h
    | _ :: _ :: _, h => cases h
    | [tg], h =>
      cases tg <;> try (cases h; done)
      rename_i ts kt pt
      match ts, h with
      | [], h => cases h
      | [_], h => cases h
      | _ :: _ :: _ :: _, h => cases h
      | [t1, t2], h =>
        cases t1 <;> try (cases h; done)
        cases t2 <;> try (cases h; done)
        rename_i x px y py
        cases e <;> try (cases h; done)
        rename_i es k2 pt2 _ _
        match es, h with
        | [], h => cases h
        | [_], h => cases h
        | _ :: _ :: _ :: _, h => cases h
        | [l, r], h =>
          obtain ⟨h, h5⟩ := two h
          obtain ⟨h, h4⟩ := two h
          obtain ⟨h, h3⟩ := two h
          obtain ⟨h1, h2⟩ := two h
          obtain ⟨h5, h6⟩ := two h5
          exact sS_par g h1 (of_decide_eq_true h2) h3 h4 (E.sound (sub := sub) (w := w) a _ _ _ g.base  l h5) (E.sound (sub := sub) (w := w) b _ _ _ g.base  r h6)
  | .aug i o a, st, h => by
    cases st <;> try (cases h; done)
    rename_i tg op e pos
    cases tg <;> try (cases h; done)
    obtain ⟨h, h3⟩ := two h
    obtain ⟨h1, h2⟩ := two h
    have := of_decide_eq_true h1
    subst this
    exact sS_aug g h2 (E.sound (sub := sub) (w := w) a _ _ _ g.base  e h3)
  | .ifs t a b, st, h => by
    cases st <;> try (cases h; done)
    rename_i c p q pos
    obtain ⟨h1, h2⟩ := two h
    obtain ⟨h2, h3⟩ := two h2
    exact sS_ifs (T.sound (sub := sub) (w := w) t _ _ _ g.base  c h1).1 (Ss.sound g a p h2) (Ss.sound g b q h3)
  | .whl t b, st, h => by
    cases st <;> try (cases h; done)
    rename_i c p q pos
    obtain ⟨h1, h2⟩ := two h
    obtain ⟨h2, h3⟩ := two h2
    cases q with
    | cons _ _ => cases h1
    | nil => exact sS_while g.po (T.sound (sub := sub) (w := w) t _ _ _ g.base  c h2).1 (Ss.sound g b p h3)
  | .for_ p it b, st, h => by
    cases st <;> try (cases h; done)
    rename_i tg iter bd q pos
    obtain ⟨h, h3⟩ := two h
    obtain ⟨h1, h2⟩ := two h
    obtain ⟨h3, h4⟩ := two h3
    obtain ⟨h4, h5⟩ := two h4
    cases q with
    | cons _ _ => cases h1
    | nil => exact sS_for g.po g.base.calm (It.sound (sub := sub) (w := w) it _ _ _ g.base tg iter (two h4).1 (two h4).2) (Pt.sound (sub := sub) (w := w) p _ _ _ g.base  tg h3) (Ss.sound g b bd h5) (fold_no h2)
  | .ret a, st, h => by
    cases st <;> try (cases h; done)
    rename_i v pos
    cases v with
    | none => cases h
    | some e => exact sS_ret (E.sound (sub := sub) (w := w) a _ _ _ g.base  e h)
  | .retn, st, h => by
    cases st <;> try (cases h; done)
    rename_i v pos
    cases v with
    | some e => cases h
    | none => exact ps_retN.imp fun D σ H ⟨m, sl, h, rl, rs, p⟩ => p m H .non Ext.refl rl rfl
  | .expr a, st, h => by
    cases st <;> try (cases h; done)
    rename_i e pos
    obtain ⟨h1, h2⟩ := two h
    exact sS_expr h1 (E.sound (sub := sub) (w := w) a _ _ _ g.base  e h2)
  | .raise kk es, st, h => by
    cases st <;> try (cases h; done)
    rename_i v c pos
    cases c with
    | some _ => cases h
    | none =>
      cases v with
      | none => cases h
      | some v =>
        cases v <;> try (cases h; done)
        rename_i fn args kws p2
        cases fn <;> try (cases h; done)
        rename_i x p1
        cases args with
        | nil =>
          obtain ⟨h, h4⟩ := two h
          obtain ⟨h, h3⟩ := two h
          obtain ⟨h1, h2⟩ := two h
          cases kws with
          | cons _ _ => cases h1
          | nil =>
            obtain ⟨f1, f2, f3⟩ := g.base.gl h2
            obtain ⟨A, f, t1, t2, t3⟩ := g.tab.made _ _ _ h3
            have hf : f = [] := by cases t3; assumption
            subst hf
            refine (ps_raise g.base.calm g.base.tk (mk_bare t1 t2 t3 f1 f2)).imp fun D σ H ⟨m, sl, h, rl, rs, p⟩ => ?_
            have e0 : Es.ev call sub w none es sl h = .ok [] h := by
              cases es with
              | nil => rfl
              | cons _ es => simp [Es.len] at h4
            have p : PostS et X.K W D m H ((Es.ev call sub w none es sl h).th sl fun xs h1 => .err kk xs sl h1) := p
            rw [e0] at p
            exact p m H σ (.ref A) none Ext.refl rl rs ⟨A, [], [], t1, rfl, rfl, rfl, .inl ⟨rfl, rfl⟩⟩
        | cons e args =>
          obtain ⟨h, h5⟩ := two h
          obtain ⟨h, h4⟩ := two h
          obtain ⟨h, h3⟩ := two h
          obtain ⟨h1, h2⟩ := two h
          cases kws with
          | cons _ _ => cases h1
          | nil =>
            obtain ⟨f1, f2, f3⟩ := g.base.gl h2
            obtain ⟨A, f, t1, t2, t3⟩ := g.tab.made _ _ _ h3
            obtain ⟨t4, _⟩ := g.tab.fs _ _ _ t1
            rw [t4] at h4
            obtain ⟨h4, h6⟩ := two h4
            have hl : f.length = es.len := by simpa using h4
            have hA := Es.sound (sub := sub) (w := w) es _ _ _ g.base  (e :: args) h5
            have s1 : starEach (e :: args) X.env = (false, eval e X.env) :: starEach args X.env := by
              cases es with
              | nil => cases h5
              | cons a0 es0 =>
                obtain ⟨q1, _⟩ := two h5
                exact star_of q1
            have s2 : (backTo p2 (starEach args X.env)).any (·.1) = false := by
              cases es with
              | nil => cases h5
              | cons a0 es0 =>
                obtain ⟨_, q2⟩ := two h5
                obtain ⟨_, q3⟩ := two q2
                exact no_any q3
            refine (ps_raise g.base.calm g.base.tk (mk_own g.base.room t1 t2 t3 f1 f2 hA s1 s2)).imp fun D σ H ⟨m, sl, h, rl, rs, p⟩ => ?_
            have p : PostS et X.K W D m H ((Es.ev call sub w none es sl h).th sl fun xs h1 => .err kk xs sl h1) := p
            refine ⟨m, sl, h, rl, rs, PostS.th p rs fun xs h1 e1 m1 H1 vs x1 rl1 rv1 p1 => ⟨m1, h1, xs, rl1, rv1, by rw [hl]; exact Es.ev_len e1, of_decide_eq_true h6, fun m' H' cls d x2 rl2 rx => ?_⟩⟩
            exact p1 m' H' σ cls d x2 rl2 ((rs.ext x1).ext x2) rx
  | .brk, st, h => by
    cases st <;> try (cases h; done)
    exact ps_break.imp fun D σ H ⟨m, sl, h, rl, rs, p⟩ => p m H σ Ext.refl rl rs
  | .cnt, st, h => by
    cases st <;> try (cases h; done)
    exact ps_continue.imp fun D σ H ⟨m, sl, h, rl, rs, p⟩ => p m H σ Ext.refl rl rs
  | .pass, st, h => by
    cases st <;> try (cases h; done)
    exact ps_pass.imp fun D σ H ⟨m, sl, h, rl, rs, p⟩ => p m H σ Ext.refl rl rs
  | .try_ b hs, st, h => by
    cases st <;> try (cases h; done)
    rename_i body hds orelse fin pos
    obtain ⟨h, h4⟩ := two h
    obtain ⟨h, h3⟩ := two h
    obtain ⟨h1, h2⟩ := two h
    have h5 := (two h4).2
    replace h4 := (two h4).1
    cases orelse with
    | cons _ _ => cases h1
    | nil =>
      cases fin with
      | cons _ _ => cases h2
      | nil =>
        cases hds with
        | nil => cases h3
        | cons h₀ hds =>
          obtain ⟨L, hL, hw⟩ := mHd_ok g (w := w) hs (h₀ :: hds) h5
          refine (ps_try_asm (tb := fun W => tS et X.K W (Ss.ev call sub w b none)) g.stack g.frame (by rw [g.base.N]; exact g.base.nd) g.base.tk (fun W' pn xe tk po => Ss.sound (g.tr tk po) b body h4) hL).imp fun D σ H ⟨m, sl, h, rl, rs, p⟩ => ⟨m, sl, h, rl, rs, ?_⟩
          have p : PostS et X.K W D m H (match Ss.ev call sub w b none sl h with
            | .err k xs sl1 h1 => Hs.ev call sub w hs k xs sl1 h1
            | r => r) := p
          cases e : Ss.ev call sub w b none sl h with
          | nx _ _ => rw [e] at p; exact p
          | ret _ _ => rw [e] at p; exact p
          | bk _ _ => rw [e] at p; exact p
          | ct _ _ => rw [e] at p; exact p
          | bad => rw [e] at p; exact p
          | err kk xs sl1 h1 =>
            rw [e] at p
            exact fun m1 H1 σ1 cls d x1 rl1 rs1 rx => hw D kk xs sl1 h1 m1 H1 σ1 cls d rl1 rs1 rx (PostS.ext p x1)
  | .augi o i op a, st, h => by
    cases st <;> try (cases h; done)
    rename_i tg op' e pos
    cases tg <;> try (cases h; done)
    obtain ⟨h, h3⟩ := two h
    obtain ⟨h1, h2⟩ := two h
    obtain ⟨h3, h4⟩ := two h3
    obtain ⟨h4, h5⟩ := two h4
    have := of_decide_eq_true h1
    subst this
    exact sS_augi h2 (E.sound (sub := sub) (w := w) o _ _ _ g.base _ h3) (E.sound (sub := sub) (w := w) i _ _ _ g.base _ h4) (E.sound (sub := sub) (w := w) a _ _ _ g.base _ h5)
  | .app o a, st, h => by
    cases st <;> try (cases h; done)
    rename_i c pos
    cases c <;> try (cases h; done)
    rename_i fn args kws cpos
    cases fn <;> try (cases h; done)
    rename_i ob nm apos
    match args, h with
    | [], h => cases h
    | _ :: _ :: _, h => cases h
    | [e], h =>
      obtain ⟨h, h6⟩ := two h
      obtain ⟨h, h5⟩ := two h
      obtain ⟨h, h4⟩ := two h
      obtain ⟨h, h3⟩ := two h
      obtain ⟨h1, h2⟩ := two h
      obtain ⟨h6, h7⟩ := two h6
      cases kws with
      | cons _ _ => cases h1
      | nil =>
        have := of_decide_eq_true h2
        subst this
        exact sS_app h3 h4 h5 (E.sound (sub := sub) (w := w) o _ _ _ g.base ob h6) (E.sound (sub := sub) (w := w) a _ _ _ g.base e h7)
  | .setc i a, st, h => by
    cases st <;> try (cases h; done)
    rename_i tgs e pos
    match tgs, h with
    | [], h => cases h
    | _ :: _ :: _, h => cases h
    | [tg], h =>
      cases tg <;> try (cases h; done)
      rename_i y py
      cases e <;> try (cases h; done)
      obtain ⟨h, h4⟩ := two h
      obtain ⟨h, h3⟩ := two h
      obtain ⟨h1, h2⟩ := two h
      exact sS_setc g ⟨_, _, _, _, rfl, h2, noB h3⟩ h1 h4
theorem Ss.sound {X : Cx} {W : WX} (g : GoodX cx et call sub k X W) : ∀ (ss : Ss) (l : List Stmt), mSs cx ss l = true → PSs X l (tS et X.K W (Ss.ev call sub w ss none))
  | .nil, l, h => by
    cases l with
    | cons _ _ => cases h
    | nil => exact pss_nil.imp fun D σ H ⟨m, sl, h, rl, rs, p⟩ => p m H σ Ext.refl rl rs
  | .cons s ss, l, h => by
    cases l with
    | nil => cases h
    | cons st l =>
      obtain ⟨h1, h2⟩ := two h
      exact (pss_cons (S.sound g s st h1) (Ss.sound g ss l h2)).imp fun D σ H ⟨m, sl, h, rl, rs, p⟩ => ⟨m, sl, h, rl, rs, PostS.seq p⟩
  | .kput i es d a ss, l, h => by
    cases l with
    | nil => cases h
    | cons s1 l => cases l with
     | nil => cases h
     | cons s2 l =>
      have hss := (two h).2
      replace h := (two h).1
      cases s1 <;> try (cases h; done)
      rename_i tgs e1 p1
      cases tgs with
      | nil => exact nomatch h
      | cons tg tr => cases tr with
       | cons _ _ => exact nomatch h
       | nil =>
        cases tg <;> try (cases h; done)
        rename_i x px
        cases e1 <;> try (cases h; done)
        rename_i xs x1 p2
        have hs2 := (two h).2
        replace h := (two h).1
        have h3 := (two h).2
        replace h := (two h).1
        have h1 := (two h).1
        have h2 := (two h).2
        clear h
        cases s2 <;> try (cases hs2; done)
        rename_i tgs2 e2 p3
        cases tgs2 with
        | nil => exact nomatch hs2
        | cons tg2 tr => cases tr with
         | cons _ _ => exact nomatch hs2
         | nil =>
          cases tg2 <;> try (cases hs2; done)
          rename_i o r ps
          cases r <;> try (cases hs2; done)
          rename_i y py
          have k5 := (two (two hs2).2).2
          have k4 := (two (two hs2).2).1
          replace hs2 := (two hs2).1
          have k3 := (two hs2).2
          replace hs2 := (two hs2).1
          have k1 := (two hs2).1
          have k2 := (two hs2).2
          clear hs2
          have := of_decide_eq_true k1
          subst this
          obtain ⟨q1, q2, q3, q4⟩ := g.base.loc h1
          have hv := var_vis g.base k2
          have first := ps_asg (pos := p1) (pe_tup (x1 := x1) (pos := p2) (Es.sound (sub := sub) (w := w) es _ _ W g.base xs h3)) (pg_name (pos := px) q4 q1 q2 q3)
          have second := ps_dput (pos := p3) (pos' := ps) (by have := g.base.units; omega) (E.sound (sub := sub) (w := w) d _ _ W g.base o k4) (hv py) (E.sound (sub := sub) (w := w) a _ _ W g.base e2 k5) (swaps_no k3)
          refine (pss_cons first (pss_cons second (Ss.sound g ss l hss))).imp fun D σ H ⟨m, sl, h, rl, rs, p⟩ => ?_
          refine ⟨m, sl, h, rl, rs, PostS.th p rs fun ks h1 e1 m1 H1 vs x1 rl1 rv1 p1 => ?_⟩
          have rv1 : RVs X.K m1 H1 ks vs := rv1
          split at p1
          · rename_i hz
            refine ⟨by rw [← rv1.length]; exact line_le hz.1, fun b hb => ?_⟩
            have rs1 : RS X.K m1 (upd H1 b (.tup vs)) (sl.set i (some (.tup ks))) (σ.set i (some (.ref b))) := ((rs.ext x1).ext (Ext.new hb)).set i (tup_laid rv1 hb)
            have rl1' := rl1.new (o := .tup vs) hb
            have p1' := PostS.ext p1 (Ext.new (o := .tup vs) hb)
            refine ⟨m1, _, h1, rl1', rs1, PostS.th p1' rs1 fun c h2 e2 m2 H2 v x2 rl2 rv2 p2 => ⟨m2, _, h2, rl2, rs1.ext x2, PostS.th p2 (rs1.ext x2) fun x h3 e3 m3 H3 u x3 rl3 rv3 p3 => ?_⟩⟩
            obtain ⟨n2, g2⟩ := x2.fr b (.tup vs) upd_same (fun _ z => by cases z) (rl1.out hb)
            obtain ⟨n3, g3⟩ := x3.fr b (.tup vs) g2 (fun _ z => by cases z) n2
            have rs3 := (rs1.ext x2).ext x3
            refine ⟨.ref b, by rw [List.getElem?_set_self (by rw [← rs.len]; exact hz.2)], ?_⟩
            refine dput_ok (W := fun c d H' => W c d (σ.set i (some (.ref b))) H') (et := et) (Q := fun H' => tS et X.K W (Ss.ev call sub w ss none) D (σ.set i (some (.ref b))) H') rl3 rv3 g3 ((rv1.ext (Ext.new hb)).ext (x2.trans x3)) (RV.ext x3 rv2) ?_
            exact PostS.th p3 rs3 fun _ h4 e4 m4 H4 _ x4 rl4 _ p4 => ⟨m4, _, h4, rl4, rs3.ext x4, p4⟩
          · exact False.elim p1
end
end
end Sh
set_option Elab.async false
set_option linter.all false
set_option autoImplicit false
set_option maxRecDepth 100000
set_option maxHeartbeats 8000000
/-! Sh, part N: every def of the program does what the plain run tells; the head. -/
namespace Sh
open PySem PySem.Spec PyProof.Rows L2

/-! ### lists that none holds any more are let go -/
section
variable {K : PySem.W.Frag} {m m' : List Addr} {H H' : Hp} {n : Nat}
mutual
theorem RV.take (n : Nat) : ∀ {c : C} {v : V}, c.under n = true → RV K m H c v → RV K (m.take n) H c v
  | .non, _, _, h => h
  | .bl _, _, _, h => h
  | .int _, _, _, h => h
  | .str _, _, _, h => h
  | .rep _, _, _, h => h
  | .tup cs, _, u, h => by
    obtain ⟨a, vs, e1, e2, e3⟩ := h
    exact ⟨a, vs, e1, e2, RVs.takeM n u e3⟩
  | .ref k, _, u, h => by
    obtain ⟨a, e1, e2⟩ := h
    have hk : k < n := of_decide_eq_true u
    exact ⟨a, by rw [List.getElem?_take]; rw [if_pos hk]; exact e1, e2⟩
  | .dref k, _, u, h => by
    obtain ⟨a, e1, e2⟩ := h
    have hk : k < n := of_decide_eq_true u
    exact ⟨a, by rw [List.getElem?_take]; rw [if_pos hk]; exact e1, e2⟩
  | .frz cs, _, u, h => by
    obtain ⟨a, vs, e1, e2, e3⟩ := h
    exact ⟨a, vs, e1, e2, RVs.takeM n u e3⟩
theorem RVs.takeM (n : Nat) : ∀ {cs : List C} {vs : List V}, C.unders n cs = true → RVs K m H cs vs → RVs K (m.take n) H cs vs
  | [], _, _, h => h
  | c :: cs, _, u, h => by
    obtain ⟨v, r, e1, e2, e3⟩ := h
    obtain ⟨u1, u2⟩ := two u
    exact ⟨v, r, e1, RV.take n u1 e2, RVs.takeM n u2 e3⟩
end
theorem DTs.takeM (n : Nat) : ∀ {es : List C} {kvs : List (List Key × V)}, C.unders n es = true → DTs K m H es kvs → DTs K (m.take n) H es kvs
  | [], _, _, h => h
  | _ :: es, _, u, h => by
    obtain ⟨c, ns, v, r, rfl, e2, e3, e4⟩ := h
    obtain ⟨u1, u2⟩ := two u
    obtain ⟨u3, _⟩ := two (show (C.under n c && C.unders n (ns.map C.int)) = true from u1)
    exact ⟨c, ns, v, r, rfl, e2, RV.take n u3 e3, DTs.takeM n u2 e4⟩
theorem DKs.takeM (n : Nat) : ∀ {es : List C} {kvs : List (Key × V)}, C.unders n es = true → DKs K m H es kvs → DKs K (m.take n) H es kvs
  | [], _, _, h => h
  | _ :: es, _, u, h => by
    obtain ⟨c, i, v, r, rfl, e2, e3, e4⟩ := h
    obtain ⟨u1, u2⟩ := two u
    obtain ⟨u3, _⟩ := two (show (C.under n c && C.unders n [C.int i]) = true from u1)
    exact ⟨c, i, v, r, rfl, e2, RV.take n u3 e3, DKs.takeM n u2 e4⟩
theorem Rl.take {h : Hc} (r : Rl K m h H) (n : Nat) (hu : (h.take n).all (C.unders n) = true) : Rl K (m.take n) (h.take n) H := by
  refine ⟨by simp [r.len], r.nd.sublist (List.take_sublist n m), fun i a cs e1 e2 => ?_⟩
  have hi : i < n := by
    by_cases q : i < n
    · exact q
    · rw [List.getElem?_take, if_neg q] at e1
      cases e1
  rw [List.getElem?_take, if_pos hi] at e1 e2
  have hm : C.unders n cs = true := List.all_eq_true.mp hu cs (List.mem_of_getElem? (i := i) (by rw [List.getElem?_take, if_pos hi]; exact e2))
  rcases r.at_ i a cs e1 e2 with ⟨vs, q1, q2⟩ | ⟨es, kvs, rfl, q1, q2⟩ | ⟨es, kvs, rfl, q1, q2⟩
  · exact .inl ⟨vs, q1, RVs.takeM n hm q2⟩
  · exact .inr (.inl ⟨es, kvs, rfl, q1, q2.takeM n (two hm).2⟩)
  · exact .inr (.inr ⟨es, kvs, rfl, q1, q2.takeM n (two hm).2⟩)
theorem Ext.take {h : Hc} (e : Ext K m H m' H') (r : Rl K m h H) : Ext K m H (m'.take h.length) H' := by
  refine ⟨fun i a q => ?_, fun b o q d n => ?_, e.tu, e.fz, fun P q n t => ⟨fun z => (e.tb P q n t).1 (List.mem_of_mem_take z), (e.tb P q n t).2⟩, e.kl, e.kd⟩
  · have hi : i < h.length := by rw [← r.len]; exact (List.getElem?_eq_some_iff.mp q).1
    rw [List.getElem?_take, if_pos hi]
    exact e.pre i a q
  · obtain ⟨n1, n2⟩ := e.fr b o q d n
    exact ⟨fun z => n1 (List.mem_of_mem_take z), n2⟩
theorem tidy_ok {et : ETab} {W : Value → Option Addr → Hp → Prop} {Q : VK} {h h1 : Hc} {c : C} (rl : Rl K m h H) (p : Post et K W m H (relV K) Q (tidy h.length c h1)) {m1 : List Addr} {H1 : Hp} {v : V} (x : Ext K m H m1 H1) (rl1 : Rl K m1 h1 H1) (rv : RV K m1 H1 c v) : Q v H1 := by
  unfold tidy at p
  split at p
  · rename_i hu
    obtain ⟨u1, u2⟩ := two hu
    exact p (m1.take h.length) H1 v (x.take rl) (rl1.take _ u2) (RV.take _ u1 rv)
  · exact p m1 H1 v x rl1 rv
theorem tidyX_ok {et : ETab} {W : Value → Option Addr → Hp → Prop} {Q : VK} {h h1 : Hc} {kk : Nat} {xs : List C} (rl : Rl K m h H) (p : Post et K W m H (relV K) Q (tidyX h.length kk xs h1)) {m1 : List Addr} {H1 : Hp} {cls : Value} {d : Option Addr} (x : Ext K m H m1 H1) (rl1 : Rl K m1 h1 H1) (rx : RX et K m1 H1 kk xs cls d) : W cls d H1 := by
  unfold tidyX at p
  split at p
  · rename_i hu
    obtain ⟨u1, u2⟩ := two hu
    obtain ⟨A, fs, vs, h1', h2, h3, h4, h5⟩ := rx
    refine p (m1.take h.length) H1 cls d (x.take rl) (rl1.take _ u2) ⟨A, fs, vs, h1', h2, h3, RVs.takeM _ u1 h4, h5.imp id fun ⟨dd, e1, e2, e3⟩ => ⟨dd, e1, e2, fun z => e3 (List.mem_of_mem_take z)⟩⟩
  · exact p m1 H1 cls d x rl1 rx
end

/-! ### the program -/
structure Item where
  x : Str
  st : Stmt
  N : List Str
  ps : List Str
  body : Ss
def Item.cfx (c0 : Cfx) (it : Item) : Cfx := { c0 with cf := { c0.cf with N := it.N, kind := fun y => (defScope it.st).names.lookup y, cl := fun y => (defScope it.st).names.lookup y == some .cell } }
def fnsOf (its : List Item) : Nat → Option Fn := fun i => (its[i]?).map fun it => ⟨it.N.length, it.ps.length, it.body⟩
structure Item.Ok (c0 : Cfx) (it : Item) : Prop where
  sc : FnScope it.N it.ps (defScope it.st)
  m : mSs (it.cfx c0) it.body (defBody it.st) = true
structure Land (its : List Item) (c0 : Cfx) (et : ETab) (sub : Nat → Str → Option Bool) (P : Program) (w : World) (K : PySem.W.Frag) (mg : Str → Option Value) (base : Heap) : Prop where
  cfn : c0.cf.fn = its.map fun it => (it.x, it.ps)
  ok : ∀ it ∈ its, it.Ok c0
  fn : ∀ (i : Nat) (it : Item), its[i]? = some it → ∃ f fd, mg it.x = some (.ref f) ∧ Fun K it.x it.x it.st f fd ∧ Binds K fd it.ps [] ∧ ∀ n ks perm, (i, n, ks, perm) ∈ c0.cf.kw → KBinds K fd it.ps ks (gK n ks.length perm) (gK n ks.length perm) ∧ 0 < it.ps.length
  bn : ∀ x, c0.cf.bn.contains x = true → mg x = none
  gcd : c0.cf.gcd = true → mg "gcd" = some (.builtin "math.gcd")
  kd : ∀ x ks, (x, ks) ∈ c0.cf.kd → ∃ d es n, mg x = some (.ref d) ∧ KDict K w d es n ∧ ∀ z, ∃ r, PySem.W.nsIn K d z = some r ∧ r.isSome = ks.contains z
  con : ∀ x c, (x, c) ∈ c0.cf.con → ∃ v u, mg x = some u ∧ RelV v u ∧ ∀ m H, RV K m H c v
  tab : ∀ k, 2 ≤ k → Tab P w K mg base k c0 et sub
  hot : ∀ x, c0.hot.contains x = true → ∃ f fd st y A B, HotF K mg et sub x f fd st y A B
section
variable {its : List Item} {c0 : Cfx} {et : ETab} {sub : Nat → Str → Option Bool} {P : Program} {w : World} {K : PySem.W.Frag} {mg : Str → Option Value} {base : Heap}
theorem RS.start {m : List Addr} {H : Hp} {N : List Str} {cs : List C} {vs : List V} (r : RVs K m H cs vs) (n : Nat) (hn : n = N.length) : RS K m H (cs.map some ++ List.replicate (n - cs.length) none) (start N vs) := by
  have hl := r.length
  subst hn
  refine ⟨by unfold L2.start; simp [hl], fun i c q => ?_⟩
  by_cases hi : i < cs.length
  · rw [List.getElem?_append_left (by simpa using hi), List.getElem?_map] at q
    cases e : cs[i]? with
    | none => rw [e] at q; cases q
    | some c' =>
      rw [e] at q
      cases q
      obtain ⟨v, e1, e2⟩ := r.get e
      refine ⟨v, ?_, e2⟩
      unfold L2.start
      rw [List.getElem?_append_left (by simpa [← hl] using hi), List.getElem?_map, e1]
      rfl
  · rw [List.getElem?_append_right (by simpa using Nat.le_of_not_lt hi), List.getElem?_replicate] at q
    split at q
    · cases q
    · cases q
theorem run_ok (L : Land its c0 et sub P w K mg base) (wh : Nat) : ∀ (d i : Nat) (it : Item), its[i]? = some it → ∀ (f : Addr) (fd : FuncData), Fun K it.x it.x it.st f fd → FnOkG P w K mg base (d + 2) f fd it.ps (spI et K (run (fnsOf its) sub wh d i))
  | 0, i, it, hi, f, fd, F => ⟨fun vs H Q E ⟨m, h, cs, rl, rv, p⟩ => False.elim p, fun A outer s H args us vs Q E hg hr he hb hv ⟨m, h, cs, rl, rv, p⟩ => False.elim p⟩
  | d + 1, i, it, hi, f, fd, F => by
    have ok := L.ok it (List.mem_of_getElem? hi)
    have S := ok.sc
    have hf : fnsOf its i = some ⟨it.N.length, it.ps.length, it.body⟩ := by
      unfold fnsOf
      rw [hi]
      rfl
    have hrun : ∀ (cs : List C) (h : Hc), run (fnsOf its) sub wh (d + 1) i cs h = if cs.length = it.ps.length ∧ it.ps.length ≤ it.N.length then
        (match Ss.ev (run (fnsOf its) sub wh d) sub wh it.body none (cs.map some ++ List.replicate (it.N.length - it.ps.length) none) h with
          | .nx _ h1 => tidy h.length .non h1
          | .ret c h1 => tidy h.length c h1
          | .err k ys _ h1 => tidyX h.length k ys h1
          | _ => .bad)
      else .bad := fun cs h => by
      show (match fnsOf its i with
        | none => R.bad
        | some fn => if cs.length = fn.np ∧ fn.np ≤ fn.n then
            (match Ss.ev (run (fnsOf its) sub wh d) sub wh fn.body none (cs.map some ++ List.replicate (fn.n - fn.np) none) h with
              | .nx _ h1 => tidy h.length .non h1
              | .ret c h1 => tidy h.length c h1
              | .err k ys _ h1 => tidyX h.length k ys h1
              | _ => .bad)
          else .bad) = _
      rw [hf]
    refine Sh.Fun.okG F S (fun vs H Q E ⟨m, h, cs, rl, rv, p⟩ => ?_) (fun cdv A outer s H vs Q E hg hr ⟨m, h, cs, rl, rv, p⟩ => ?_)
    · rw [hrun] at p
      split at p
      · rename_i hc
        rw [← rv.length]
        exact hc.1
      · exact False.elim p
    · rw [hrun] at p
      split at p
      · rename_i hc
        have g : GoodX (it.cfx c0) et (run (fnsOf its) sub wh d) sub (d + 2) (cxOf (L2.CX P w) P w K mg base it.N it.x (defScope it.st) f cdv A outer s H E) (fun cls d _ H => E cls d H) := by
          refine ⟨⟨rfl, S.nd, fun x => rfl, fun x hx => ⟨rfl, beq_iff_eq.mp hx⟩, S.kind, rfl, hr, hg, takes_of rfl rfl rfl rfl, L.bn, L.gcd, L.kd, L.con, fun fi x ps hfi => ?_⟩, ?_, rfl, rfl, ?_, passes_of rfl, fun x hx => ⟨by omega, L.hot x hx⟩⟩
          · have hfi : c0.cf.fn[fi]? = some (x, ps) := hfi
            rw [L.cfn, List.getElem?_map] at hfi
            cases e : its[fi]? with
            | none => rw [e] at hfi; cases hfi
            | some it2 =>
              rw [e] at hfi
              cases hfi
              obtain ⟨a2, fd2, q1, q2, q3, q4⟩ := L.fn fi it2 e
              exact ⟨a2, fd2, q1, q2.kp, q3, run_ok L wh d fi it2 e a2 fd2 q2, q4⟩
          · have t := L.tab (d + 2) (by omega)
            exact ⟨t.fs, t.made, t.hd, t.isx, t.xc⟩
          · show (if (defScope it.st).kind.isAnnotationScope then ScopeKind.function else (defScope it.st).kind) = .function
            rw [S.kind]
            rfl
        refine ⟨_, Ss.sound (w := wh) g it.body (defBody it.st) ok.m, m, _, h, rl, RS.start rv it.N.length rfl, ?_⟩
        rw [hc.1]
        cases e : Ss.ev (run (fnsOf its) sub wh d) sub wh it.body none (cs.map some ++ List.replicate (it.N.length - it.ps.length) none) h with
        | nx sl h1 =>
          rw [e] at p
          exact fun m1 H1 σ1 x1 rl1 rs1 => tidy_ok rl p x1 rl1 (v := .non) rfl
        | ret c h1 =>
          rw [e] at p
          exact fun m1 H1 v x1 rl1 rv1 => tidy_ok rl p x1 rl1 rv1
        | err kk ys sl h1 =>
          rw [e] at p
          exact fun m1 H1 σ1 cls d x1 rl1 rs1 rx => tidyX_ok (W := E) rl p x1 rl1 rx
        | bk _ _ => rw [e] at p; exact False.elim p
        | ct _ _ => rw [e] at p; exact False.elim p
        | bad => rw [e] at p; exact False.elim p
      · exact False.elim p
end

/-! ### the head: as the layer's own, where nothing guards -/
theorem law_callG {P : Program} {w : World} {K : PySem.W.Frag} {mg mb : Str → Option Value} {k : Nat} {fa a : Addr} {fd : FuncData} {x : Str} {sp : Sp} {s₁ : Shared} {vs : List Value} {ns : List Int}
    (KX : K.In s₁.heap) (hns : s₁.heap.Ns mainGlobals mg) (hb : s₁.heap.Ns builtinsNs mb) (hbb : ∀ x : Str, x ≠ "__name__" → mb x = bootBuiltins x) (hlim : s₁.heap.NoLimit) (hg : s₁.gens = #[])
    (ha : s₁.heap.get? a = some { cls := .type "list", data := .seq vs.toArray }) (hi : IntsAre vs ns) (hl : ns.length ≤ sizeLine) (hr : Room k callerA)
    (F : ∀ base : Heap, K.In base → base.Ns mainGlobals mg → FnOkG P w K mg base k fa fd [x] sp) (hbind : ∀ (s : Shared) (u : Value), BindsTo s fd ⟨[u], []⟩ [(x, u)])
    (hsp : ∀ H : Hp, Only H → FzL K H a (ns.map V.int) → sp [.ref a] H (fun v _ => v = .bl true) fun _ _ _ => False) :
    codeAny (model P w) callerA (.call (.ref fa) ⟨[.ref a], []⟩) (fun r s' => r = .ok (.ret (.bool true)) ∧ OldK s₁.heap s'.heap ∧ s'.os = s₁.os ∧ AllBare s'.gens) s₁ := by
  have rv := vals_ints hi
  have go : ∀ H : Hp, Only H → FzL K H a (ns.map V.int) → HOk P w H s₁.heap → (∀ b, H b ≠ none → b = a) → (H a ≠ none → K.lookup a = none) →
      codeAny (model P w) callerA (.call (.ref fa) ⟨[.ref a], []⟩) (fun r s' => r = .ok (.ret (.bool true)) ∧ OldK s₁.heap s'.heap ∧ s'.os = s₁.os ∧ AllBare s'.gens) s₁ := fun H hO hS hok hA hK => by
    have isA : ∀ {b : Addr} {u : HO}, H b = some u → b = a := fun {b u} q => hA b (by rw [q]; simp)
    have noD : ∀ {b : Addr} {o : Obj} {es : Array DictEntry} {ep : Nat}, s₁.heap.get? b = some o → o.data = .dict es ep → H b = none := fun {b o es ep} e d => by
      cases q : H b with
      | none => rfl
      | some u =>
        obtain rfl := isA q
        rw [ha] at e
        cases e
        exact absurd (show Data.seq vs.toArray _ = Data.dict es ep from d) (by intro z; cases z)
    have nsT : ∀ {b : Addr} {m : Str → Option Value}, s₁.heap.Ns b m → (hidT s₁.heap H).Ns b m := fun {b m} ⟨o, es, ep, e, d, r⟩ => ⟨o, es, ep, hidT_get e (noD e d), d, r⟩
    have inT : K.In (hidT s₁.heap H) := fun b o e => hidT_get (KX b o e) (by
      cases q : H b with
      | none => rfl
      | some u =>
        obtain rfl := isA q
        rw [hK (by rw [q]; simp)] at e
        cases e)
    have e0 : Env0 P w K mg (hidT s₁.heap H) callerA [] s₁ H := ⟨rfl, ⟨inT, nsT hns, ⟨mb, nsT hb, hbb⟩, let ⟨mc, h1, h2⟩ := hlim; ⟨mc, nsT h1, h2⟩⟩, fun b o e => of_hidT e, Nat.le_of_eq (hidT_size _ _), trivial, fun b hb => absurd (show b ∈ ([] : List Addr) from hb) (by simp), hok, .of_eq hg⟩
    refine codeAny_mono ((F _ inT (nsT hns)).run callerA [] s₁ H ⟨[.ref a], []⟩ [.ref a] [.ref a] _ _ rfl hr e0 (hbind s₁ (.ref a)) (.cons rfl .nil) (hsp H hO hS)) fun r s' h => ?_
    cases r with
    | error e =>
      obtain ⟨_, _, _, _, _, _, _, _, _, _, _, _, z⟩ := h
      exact z.elim
    | ok fl =>
      cases fl <;> first | exact False.elim h | skip
      obtain ⟨v, H', os, bare, un, hok', r', q⟩ := h
      have q' : v = .bl true := q
      subst q'
      obtain rfl := r'
      refine ⟨rfl, OldK.of_keep fun b o e => ?_, os, bare⟩
      cases q : H b with
      | none => exact un.keep b o e q (by intro z; exact absurd (show b ∈ ([] : List Addr) from z) (by simp)) (by simp)
      | some u =>
        rcases hO b with z | ⟨ob, xs, z⟩
        · rw [q] at z; cases z
        · obtain ⟨e1, _⟩ := hok b _ z
          obtain ⟨e2, _⟩ := hok' b _ (un.frzs b ob _ z)
          rw [e] at e1
          cases e1
          exact e2
  cases hk : K.lookup a with
  | some o =>
    have e := KX a o hk
    rw [ha] at e
    cases e
    exact go (fun _ => none) (fun _ => .inl rfl) (.inr ⟨_, vs.toArray, _, hk, rfl, rfl, rfl, by rw [List.size_toArray, hi.length]; exact hl, by simpa using rv⟩) (fun b u z => by have z' : (none : Option HO) = some u := z; cases z') (fun b z => absurd rfl z) fun z => absurd rfl z
  | none =>
    have at_ : (fun b => if b = a then some (HO.frz { cls := .type "list", data := .seq vs.toArray } (.lst (ns.map V.int))) else none) a = some (HO.frz { cls := .type "list", data := .seq vs.toArray } (.lst (ns.map V.int))) := if_pos rfl
    refine go (fun b => if b = a then some (.frz { cls := .type "list", data := .seq vs.toArray } (.lst (ns.map V.int))) else none) (fun b => ?_) (.inl ⟨_, at_⟩) (fun b u z => ?_) (fun b z => ?_) fun _ => hk
    · by_cases hb : b = a
      · exact .inr ⟨_, _, if_pos hb⟩
      · exact .inl (if_neg hb)
    · by_cases hb : b = a
      · have z' := (if_pos hb).symm.trans z
        cases z'
        subst hb
        exact ⟨ha, by rw [List.length_map]; exact hl, vs, _, rv, ha⟩
      · have z' := (if_neg hb).symm.trans z
        cases z'
    · by_cases hb : b = a
      · exact hb
      · exact absurd (if_neg hb) z
/-- the goal that k_head leaves -/
theorem walk_G {l : PySem.W.OpenLaw} {n k : Nat} {q : Program} {loose : List Str} {XP : (Str → Option Value) → Heap → Prop} {YP : World → Heap → Prop} {d : DefRec} {K : Params → PySem.W.Frag} {sp : World → Sp} {x : Str}
    (hn : l.most = some n) (hn2 : n ≤ sizeLine) (hdf : d.params.defaults = []) (hr : Room k callerA)
    (hY : ∀ (w : World) (h : Heap), YP w h → (K w.params).In h)
    (F : ∀ (w : World) (mg : Str → Option Value) (fa : Addr) (h : Heap), (K w.params).In h → h.Ns mainGlobals mg → mg d.name = some (.ref fa) →
      ∃ fd : FuncData, (∀ (s : Shared) (u : Value), BindsTo s fd ⟨[u], []⟩ [(x, u)]) ∧
        ∀ base : Heap, (K w.params).In base → base.Ns mainGlobals mg → FnOkG l.prog w (K w.params) mg base k fa fd [x] (sp w))
    (hsp : ∀ (w : World) (H : Hp) (a : Addr) (ns : List Int), ns.length ≤ n → Only H → FzL (K w.params) H a (ns.map V.int) → sp w [.ref a] H (fun v _ => v = .bl true) fun _ _ _ => False) :
    PySem.W.WalkO q loose XP YP l.row.toRowW d [] (fun f vs => PySem.call f vs) := by
  refine Att.attach_call hn hdf fun w s₀ s₁ mg mb fa o pm cd doc a vs ns G Y ho hd hcd hmg hobj hints hlen hg => ?_
  have KX := hY w _ Y
  obtain ⟨fd, hb, hF⟩ := F w mg fa _ KX G.T.g hmg
  exact law_callG KX G.T.g G.T.b G.T.builtins G.T.nolimit hg hobj hints (Nat.le_trans hlen hn2) hr hF hb fun H hO hS => hsp w H a ns hlen hO hS
end Sh
set_option Elab.async false
set_option linter.all false
set_option autoImplicit false
set_option maxRecDepth 100000
set_option maxHeartbeats 8000000
/-! Sh, part O: the facts of a program's world, from what the written part says. -/
namespace Sh
open PySem PySem.Spec PyProof.Rows L2

section
variable {P : Program} {w : World} {K : PySem.W.Frag} {mg : Str → Option Value} {base : Heap} {C fI : Addr} {fd : FuncData}
/-- __init__(self, v): self.v = v -/
theorem ini1 {f q : Str} {st : Stmt} {q1 q2 q3 q4 : Pos} (F : Fun K "__init__" q st fI fd) (hb : defBody st = [.Assign [.Attribute (.Name "self" q1) f q2] (.Name f q3) q4]) (S : FnScope ["self", f] ["self", f] (defScope st)) (hf1 : (f == ("__debug__" : Str)) = false) (hf2 : (f == ("__classdict__" : Str)) = false)
    (T : OexG K C) (hno : PySem.W.findIn K (.ref C) f = some none) : FnOk P w K mg base (L2.CX P w) 1 fI fd ("self" :: [f]) (spIni C [f]) := by
  refine F.okX S (fun vs H Q E ⟨a, ws, e1, e2, _⟩ => by rw [e1]; simpa using e2) (fun cdv A outer s H vs Q E hr ⟨a, ws, e1, e2, e3, e4⟩ => ?_)
  rw [hb]
  have vis : ∀ x, x ∈ (["self", f] : List Str) → Vis (defScope st) x := fun x hx => (S.par x hx).elim .inl fun z => .inr (.inl z)
  refine ⟨_, pss_one (ps_ostG (pe_var (i := 0) rfl (vis "self" (by simp))) (pe_var (i := 1) rfl (vis f (by simp)) hf1 hf2) rfl), ?_⟩
  match ws, e2 with
  | [y], _ =>
    subst e1
    refine ⟨y, rfl, .ref a, rfl, a, C, rfl, T, hno, .inl ⟨e3, fun dx n1 n2 => ?_⟩⟩
    exact e4 dx _ n1 n2 upd_same (by rw [upd_ne n2, upd_same]; rfl) fun b h1 h2 => by rw [upd_ne h1, upd_ne h2]
/-- __init__(self, v, u): self.v = v; self.u = u -/
theorem ini2 {f g q : Str} {st : Stmt} {q1 q2 q3 q4 r1 r2 r3 r4 : Pos} (F : Fun K "__init__" q st fI fd) (hb : defBody st = [.Assign [.Attribute (.Name "self" q1) f q2] (.Name f q3) q4, .Assign [.Attribute (.Name "self" r1) g r2] (.Name g r3) r4]) (S : FnScope ["self", f, g] ["self", f, g] (defScope st))
    (hf1 : (f == ("__debug__" : Str)) = false) (hf2 : (f == ("__classdict__" : Str)) = false) (hg1 : (g == ("__debug__" : Str)) = false) (hg2 : (g == ("__classdict__" : Str)) = false)
    (T : OexG K C) (hno : PySem.W.findIn K (.ref C) f = some none) (hno2 : PySem.W.findIn K (.ref C) g = some none) : FnOk P w K mg base (L2.CX P w) 1 fI fd ("self" :: [f, g]) (spIni C [f, g]) := by
  refine F.okX S (fun vs H Q E ⟨a, ws, e1, e2, _⟩ => by rw [e1]; simpa using e2) (fun cdv A outer s H vs Q E hr ⟨a, ws, e1, e2, e3, e4⟩ => ?_)
  rw [hb]
  have vis : ∀ x, x ∈ (["self", f, g] : List Str) → Vis (defScope st) x := fun x hx => (S.par x hx).elim .inl fun z => .inr (.inl z)
  refine ⟨_, pss_cons (ps_ostG (pe_var (i := 0) rfl (vis "self" (by simp))) (pe_var (i := 1) rfl (vis f (by simp)) hf1 hf2) rfl) (pss_one (ps_ostG (pe_var (i := 0) rfl (vis "self" (by simp))) (pe_var (i := 2) rfl (vis g (by simp)) hg1 hg2) rfl)), ?_⟩
  match ws, e2 with
  | [y, z], _ =>
    subst e1
    refine ⟨y, rfl, .ref a, rfl, a, C, rfl, T, hno, .inl ⟨e3, fun dx n1 n2 => ?_⟩⟩
    have nx : dx ≠ a := n2
    refine ⟨z, rfl, .ref a, rfl, a, C, rfl, T, hno2, .inr ⟨dx, [(f, y)], upd_same, by rw [upd_ne nx, upd_same], by show 1 ≤ 900; omega, ?_⟩⟩
    exact e4 dx _ n1 n2 (by rw [upd_ne (Ne.symm nx), upd_same]) (by rw [upd_same]; rfl) fun b h1 h2 => by rw [upd_ne h2, upd_ne h1, upd_ne h2]
theorem gK_vals {n k : Nat} {perm : List Nat} {vs zs : List V} {us ws : List Value} (r : Vals vs us) (rz : Vals zs ws) : Vals (gK n k perm vs zs) (gK n k perm us ws) := by
  unfold gK
  rw [r.length, rz.length]
  split
  · refine r.append ?_
    induction perm with
    | nil => exact .nil
    | cons i perm ih =>
      rw [List.filterMap_cons, List.filterMap_cons]
      cases e : zs[i]? with
      | none =>
        have : ws[i]? = none := by
          rw [List.getElem?_eq_none_iff] at e ⊢
          rw [← rz.length]; exact e
        rw [this]
        exact ih
      | some z =>
        obtain ⟨u, e1, e2⟩ := rz.get e
        rw [e1]
        exact .cons e2 ih
  · exact .nil
theorem kb_mk {fd : FuncData} {ps ks : List Str} {n k : Nat} {perm : List Nat} (hp : 0 < ps.length) (h : ∀ (s : Shared) (us ws : List Value), us.length = n → ws.length = k → BindsTo s fd ⟨us, ks.zip ws⟩ (ps.zip (us ++ perm.filterMap fun i => ws[i]?))) : KBinds K fd ps ks (gK n k perm) (gK n k perm) :=
  ⟨fun s us ws _ hl => by
    unfold gK at hl ⊢
    split at hl
    · rename_i hc
      rw [if_pos hc]
      exact h s us ws hc.1 hc.2
    · exact absurd hl (by simp; omega), fun r rz => gK_vals r rz⟩
theorem xc_mk (ga : PySem.W.findIn K (.ref C) "__getattribute__" = some (some (.builtin "BaseException.__getattribute__"))) (gg : PySem.W.findIn K (.ref C) "__getattr__" = some none) (su : PySem.W.subIn K (.ref C) (.type "BaseException") = some true) (hd : PySem.W.hasDictIn K C = true)
    (ha : PySem.W.findIn K (.ref C) "__class__" = some (some (.builtin "object.__class__"))) (hn : PySem.W.specialIn K (.builtin "object.__class__") "__get__" = some (some (.builtin "getset_descriptor.__get__"))) (ht : PySem.W.takesIn K (.builtin "object.__class__") = some true) (hm : PySem.W.mroIn K C (.type "object") = some true) : XcC K C := by
  refine ⟨?_, ga, gg, su, hd, ha, hn, ht, hm⟩
  unfold PySem.W.hasDictIn at hd
  cases e : PySem.W.clsIn K C with
  | none => rw [e] at hd; cases hd
  | some _ => rfl
theorem kit_mk {A : Addr} {b : Bool} (hd : PySem.W.hasDictIn K C = true) (ht : PySem.W.typeIn K (.ref C) = some (.type "type")) (hne : A ≠ C) (hs : PySem.W.subIn K (.ref A) (.ref C) = some b) : PySem.W.kitOne K (.ref A) (.ref C) = some b := by
  have hc : (PySem.W.clsIn K C).isSome = true := by
    unfold PySem.W.hasDictIn at hd
    cases e : PySem.W.clsIn K C with
    | none => rw [e] at hd; cases hd
    | some _ => rfl
  unfold PySem.W.kitOne
  rw [if_neg (by
    intro z
    exact hne (Value.ref.inj (beq_iff_eq.mp z)))]
  have e2 : ((PySem.W.clsIn K C).isSome && PySem.W.typeIn K (.ref C) == some (.type "type")) = true := by rw [hc, ht] <;> rfl
  show (if ((PySem.W.clsIn K C).isSome && PySem.W.typeIn K (.ref C) == some (.type "type")) = true then PySem.W.subIn K (.ref A) (.ref C) else none) = some b
  rw [if_pos e2]
  exact hs
/-- dicts and tuples of the program's own -/
def keysOf : List DictEntry → Option (List Str)
  | [] => some []
  | e :: r => match e.key with
    | .str x _ => (keysOf r).map (x :: ·)
    | _ => none
theorem keysOf_find {z : Str} : ∀ {l : List DictEntry} {ks : List Str}, keysOf l = some ks → ∃ r, (match l.find? (·.key.isStr z) with
      | some e => some (some e.val)
      | none => if l.any (·.refKey) then none else some none) = some r ∧ r.isSome = ks.contains z
  | [], ks, h => by
    cases h
    exact ⟨none, rfl, rfl⟩
  | e :: l, ks, h => by
    unfold keysOf at h
    split at h
    · rename_i x t hk
      cases hh : keysOf l with
      | none => rw [hh] at h; cases h
      | some ks' =>
        rw [hh] at h
        cases h
        obtain ⟨r, h1, h2⟩ := keysOf_find (z := z) hh
        have es : e.key.isStr z = (x == z) := by rw [hk]; rfl
        have er : e.refKey = false := by
          unfold DictEntry.refKey
          rw [hk]
        rw [List.find?_cons, es, List.any_cons, er]
        cases hx : (x == z) with
        | true =>
          refine ⟨some e.val, rfl, ?_⟩
          rw [List.contains_cons]
          have : (z == x) = true := by rw [beq_iff_eq] at hx ⊢; exact hx.symm
          rw [this]
          rfl
        | false =>
          refine ⟨r, h1, ?_⟩
          rw [List.contains_cons, h2]
          have : (z == x) = false := by
            cases hz : (z == x) with
            | false => rfl
            | true => rw [beq_iff_eq] at hz; rw [hz] at hx; simp at hx
          rw [this]
          rfl
    · cases h
theorem kd_mk {w : World} {K : PySem.W.Frag} {mg : Str → Option Value} {x : Str} {ks : List Str} {d : Addr} {es : Array DictEntry} {n : Nat} (hm : mg x = some (.ref d)) (l : K.lookup d = some ⟨.type "dict", none, .dict es n, #[]⟩) (kl : PySem.W.KeysLit w.params es.toList) (low : (d == sysModules) = false) (hk : keysOf es.toList = some ks) :
    ∃ d es n, mg x = some (.ref d) ∧ KDict K w d es n ∧ ∀ z, ∃ r, PySem.W.nsIn K d z = some r ∧ r.isSome = ks.contains z := by
  refine ⟨d, es, n, hm, ⟨l, kl, low⟩, fun z => ?_⟩
  obtain ⟨r, h1, h2⟩ := keysOf_find (z := z) hk
  refine ⟨r, ?_, h2⟩
  unfold PySem.W.nsIn
  rw [l]
  exact h1
theorem tupc_mk {K : PySem.W.Frag} {mg : Str → Option Value} {x : Str} {cs : List Sh.C} {a : Addr} {od : Option Addr} {its : Array Value} {n : Nat} {sl : Array (Option Value)} (hm : mg x = some (.ref a)) (l : K.lookup a = some ⟨.type "tuple", od, .seq its n, sl⟩) (hs : its.size ≤ 1000) {vs : List V} (q : Vals vs its.toList) (r : ∀ m H, RVs K m H cs vs) :
    ∃ v u, mg x = some u ∧ L2.RelV v u ∧ ∀ m H, RV K m H (.tup cs) v :=
  ⟨.ref a, .ref a, hm, rfl, fun m H => ⟨a, vs, rfl, .inr ⟨_, its, n, l, rfl, rfl, by rw [sizeLine_eq]; omega, q⟩, r m H⟩⟩
theorem kl_nil {P : Params} : PySem.W.KeysLit P [] := trivial
theorem kl_cons {P : Params} {e : DictEntry} {l : List DictEntry} (x : Str) (t : Tok) (h1 : e.key = .str x t) (h2 : e.hash = PyData.keyHash P x) (h : PySem.W.KeysLit P l) : PySem.W.KeysLit P (e :: l) := ⟨⟨x, t, h1, h2⟩, h⟩
/-- the law's promise at its own script -/
def sp0 (K : PySem.W.Frag) : Sp := fun vs H Q _ => ∃ (a : Addr) (ns : List Int), vs = [.ref a] ∧ ns.length ≤ 63 ∧ FzL K H a (ns.map V.int) ∧ ∀ H', Q (.bl true) H'
theorem rvs_ints {m : List Addr} {H : Hp} : ∀ ns : List Int, RVs K m H (ns.map Sh.C.int) (ns.map V.int)
  | [] => rfl
  | n :: ns => ⟨.int n, _, rfl, rfl, rvs_ints ns⟩
theorem sp0_of {et : ETab} {k : Nat} {f : Addr} {ps : List Str} {r : List Sh.C → Hc → R Sh.C} (F : FnOkG P w K mg base k f fd ps (spI et K r)) (hp : ∀ ns : List Int, ns.length ≤ 63 → ∃ h', r [.frz (ns.map Sh.C.int)] [] = .ok (.bl true) h') : FnOkG P w K mg base k f fd ps (sp0 K) :=
  F.imp fun vs H Q E ⟨a, ns, e1, e2, e3, e4⟩ => by
    obtain ⟨h', hr⟩ := hp ns e2
    refine ⟨[], [], [.frz (ns.map Sh.C.int)], ⟨rfl, .nil, fun n a cs q => by cases q⟩, ?_, ?_⟩
    · rw [e1]
      exact RVs.one ⟨a, _, rfl, e3, rvs_ints ns⟩
    · rw [hr]
      exact fun m' H' v x rl rv => by cases rv; exact e4 H'
end
end Sh
set_option linter.all false
set_option autoImplicit false
set_option maxRecDepth 100000
set_option maxHeartbeats 2000000
/-! Sh, part P: what the plain language's parts do, for reckoning by simp. -/
namespace Sh
open PySem
section
variable {α β : Type}
theorem bind_ok (a : α) (h : Hc) (f : α → Hc → R β) : (R.ok a h).bind f = f a h := rfl
theorem bind_err (k : Nat) (xs : List C) (h : Hc) (f : α → Hc → R β) : (R.err k xs h).bind f = .err k xs h := rfl
theorem bind_bad (f : α → Hc → R β) : (R.bad : R α).bind f = .bad := rfl
theorem th_ok (a : α) (h : Hc) (sl : Sl) (f : α → Hc → RS') : (R.ok a h).th sl f = f a h := rfl
theorem th_err (k : Nat) (xs : List C) (h : Hc) (sl : Sl) (f : α → Hc → RS') : (R.err k xs h).th sl f = .err k xs sl h := rfl
theorem th_bad (sl : Sl) (f : α → Hc → RS') : (R.bad : R α).th sl f = .bad := rfl
theorem nxth (sl : Sl) (h : Hc) (f : Sl → Hc → RS') : (RS'.nx sl h).th f = f sl h := rfl
theorem retth (c : C) (h : Hc) (f : Sl → Hc → RS') : (RS'.ret c h).th f = .ret c h := rfl
theorem errth (k : Nat) (xs : List C) (sl : Sl) (h : Hc) (f : Sl → Hc → RS') : (RS'.err k xs sl h).th f = .err k xs sl h := rfl
theorem badth (f : Sl → Hc → RS') : (RS'.bad).th f = .bad := rfl
theorem noerr_ok (a : α) (h : Hc) : (R.ok a h).noerr = .ok a h := rfl
end
/-- the end of a def -/
def fin (h : Hc) : RS' → R C
  | .nx _ h1 => tidy h.length .non h1
  | .ret c h1 => tidy h.length c h1
  | .err k ys _ h1 => tidyX h.length k ys h1
  | _ => .bad
theorem tidy_same (h : Hc) (c : C) : tidy h.length c h = .ok c h := by
  unfold tidy
  split
  · rw [List.take_length]
  · rfl
theorem tidyX_same (h : Hc) (k : Nat) (xs : List C) : tidyX h.length k xs h = .err k xs h := by
  unfold tidyX
  split
  · rw [List.take_length]
  · rfl
theorem fin_nx (sl : Sl) (h h1 : Hc) : fin h (.nx sl h1) = tidy h.length .non h1 := rfl
theorem fin_ret (c : C) (h h1 : Hc) : fin h (.ret c h1) = tidy h.length c h1 := rfl
theorem fin_err (k : Nat) (ys : List C) (sl : Sl) (h h1 : Hc) : fin h (.err k ys sl h1) = tidyX h.length k ys h1 := rfl

/-! ### sizes -/
def Bd (k : Nat) (i : Int) : Prop := i.natAbs < 2 ^ k
theorem Bd.mono {a b : Nat} {i : Int} (h : Bd a i) (l : a ≤ b) : Bd b i := Nat.lt_of_lt_of_le h (Nat.pow_le_pow_right (by decide) l)
theorem Bd.mul {a b : Nat} {i j : Int} (h : Bd a i) (k : Bd b j) : Bd (a + b) (i * j) := by
  unfold Bd at *
  rw [Int.natAbs_mul, Nat.pow_add]
  exact Nat.mul_lt_mul_of_lt_of_lt h k
theorem Bd.add {a : Nat} {i j : Int} (h : Bd a i) (k : Bd a j) : Bd (a + 1) (i + j) := by
  unfold Bd at *
  rw [Nat.pow_succ]
  have := Int.natAbs_add_le i j
  omega
theorem Bd.sub {a : Nat} {i j : Int} (h : Bd a i) (k : Bd a j) : Bd (a + 1) (i - j) := by
  unfold Bd at *
  rw [Nat.pow_succ]
  have := Int.natAbs_sub_le i j
  omega
theorem Bd.neg {a : Nat} {i : Int} (h : Bd a i) : Bd a (-i) := by
  unfold Bd at *
  rw [Int.natAbs_neg]; exact h
theorem Bd.le {a : Nat} {i j : Int} (h : Bd a i) (k : j.natAbs ≤ i.natAbs) : Bd a j := Nat.lt_of_le_of_lt k h
theorem tb_of {i : Int} {a : Nat} (h : Bd a i) (l : a ≤ 60000) : tooBig i = false := by
  unfold tooBig big
  have := h.mono l
  exact decide_eq_false (Nat.not_le.mpr this)
theorem mul_of {a b : Nat} {i j : Int} (h : Bd a i) (k : Bd b j) (l : a ≤ 60000) (l2 : b ≤ 60000) (hc : Hc) : mulC (.int i) (.int j) hc = .ok (.int (i * j)) hc := by
  show (if tooBig i || tooBig j then R.bad else R.ok (C.int (i * j)) hc) = _
  rw [tb_of h l, tb_of k l2]
  rfl
theorem div_of {b : Nat} {i j : Int} (hj : j ≠ 0) (k : Bd b j) (l : b ≤ 8000) (hc : Hc) : divC (.int i) (.int j) hc = .ok (.int (i.fdiv j)) hc := by
  show (if j = 0 ∨ divLine ≤ j.natAbs then R.bad else R.ok (C.int (i.fdiv j)) hc) = _
  rw [if_neg]
  rintro (z | z)
  · exact hj z
  · have := k.mono l
    unfold divLine at z
    exact absurd this (Nat.not_lt.mpr z)
theorem mod_of {i j : Int} (hj : j ≠ 0) (hc : Hc) : modC (.int i) (.int j) hc = .ok (.int (i.fmod j)) hc := by
  show (if j = 0 then R.bad else R.ok (C.int (i.fmod j)) hc) = _
  rw [if_neg hj]
theorem bd_small {i : Int} (h1 : -1000000000000000000000 < i) (h2 : i < 1000000000000000000000) : Bd 80 i := by
  unfold Bd
  omega
theorem eq_int (h : Hc) (i j : Int) : cmpop .eq (.int i) (.int j) h = .ok (.bl (i == j)) h := rfl
theorem ne_int (h : Hc) (i j : Int) : cmpop .ne (.int i) (.int j) h = .ok (.bl (!(i == j))) h := rfl
mutual
theorem pd_refl : ∀ d : PyData, d.hasDict = false → pdEq d d = true
  | .none, _ => rfl
  | .bool b, _ => by show (b == b) = true; simp
  | .int i, _ => by show (i == i) = true; simp
  | .str x, _ => by show (x == x) = true; simp
  | .list xs, h => pds_refl xs h
  | .tuple xs, h => pds_refl xs h
  | .dict _, h => by cases h
theorem pds_refl : ∀ ds : List PyData, PyData.hasDictAll ds = false → pdEqs ds ds = true
  | [], _ => rfl
  | d :: ds, h => by
    have h : (d.hasDict || PyData.hasDictAll ds) = false := h
    obtain ⟨h1, h2⟩ := Bool.or_eq_false_iff.mp h
    show (pdEq d d && pdEqs ds ds) = true
    rw [pd_refl d h1, pds_refl ds h2]
    rfl
end
end Sh
set_option Elab.async false
set_option linter.all false
set_option autoImplicit false
set_option maxRecDepth 100000
set_option maxHeartbeats 4000000
/-! Sh, part Q: what a call does with a store of its own it does beside any other closed store (the frame). -/
namespace Sh
open PySem
mutual
def C.sh (n : Nat) : C → C
  | .tup cs => .tup (C.shs n cs)
  | .ref k => .ref (n + k)
  | .frz cs => .frz (C.shs n cs)
  | .non => .non
  | .bl b => .bl b
  | .int i => .int i
  | .str x => .str x
  | .rep d => .rep d
  | .dref k => .dref (n + k)
def C.shs (n : Nat) : List C → List C
  | [] => []
  | c :: cs => C.sh n c :: C.shs n cs
end
theorem shs_map (n : Nat) : ∀ cs : List C, C.shs n cs = cs.map (C.sh n)
  | [] => rfl
  | c :: cs => by show C.sh n c :: C.shs n cs = _; rw [shs_map n cs]; rfl
theorem shs_len (n : Nat) (cs : List C) : (C.shs n cs).length = cs.length := by rw [shs_map, List.length_map]
theorem shs_get (n : Nat) (cs : List C) (i : Nat) : (C.shs n cs)[i]? = (cs[i]?).map (C.sh n) := by rw [shs_map, List.getElem?_map]
theorem shs_app (n : Nat) (a b : List C) : C.shs n (a ++ b) = C.shs n a ++ C.shs n b := by rw [shs_map, shs_map, shs_map, List.map_append]
theorem shs_set (n : Nat) (a : List C) (i : Nat) (c : C) : C.shs n (a.set i c) = (C.shs n a).set i (C.sh n c) := by rw [shs_map, shs_map, List.map_set]
theorem shs_take (n : Nat) (a : List C) (i : Nat) : C.shs n (a.take i) = (C.shs n a).take i := by rw [shs_map, shs_map, List.map_take]
theorem shs_drop (n : Nat) (a : List C) (i : Nat) : C.shs n (a.drop i) = (C.shs n a).drop i := by rw [shs_map, shs_map, List.map_drop]
theorem shs_rev (n : Nat) (a : List C) : C.shs n a.reverse = (C.shs n a).reverse := by rw [shs_map, shs_map, List.map_reverse]
theorem shs_droplast (n : Nat) (a : List C) : C.shs n a.dropLast = (C.shs n a).dropLast := by rw [shs_map, shs_map, List.map_dropLast]
theorem shs_nil (n : Nat) (a : List C) : C.shs n a = [] ↔ a = [] := by cases a <;> simp [C.shs]
theorem shs_emp (n : Nat) (a : List C) : (C.shs n a).isEmpty = a.isEmpty := by cases a <;> rfl
mutual
def C.nr : C → Bool
  | .tup cs => C.nrs cs
  | .ref _ => false
  | .frz cs => C.nrs cs
  | .dref _ => false
  | _ => true
def C.nrs : List C → Bool
  | [] => true
  | c :: cs => C.nr c && C.nrs cs
end
mutual
theorem nr_sh (n : Nat) : ∀ c : C, c.nr = true → C.sh n c = c
  | .tup cs, h => by show C.tup (C.shs n cs) = _; rw [nrs_shs n cs h]
  | .ref _, h => by cases h
  | .frz cs, h => by show C.frz (C.shs n cs) = _; rw [nrs_shs n cs h]
  | .non, _ => rfl
  | .bl _, _ => rfl
  | .int _, _ => rfl
  | .str _, _ => rfl
  | .rep _, _ => rfl
  | .dref _, h => by cases h
theorem nrs_shs (n : Nat) : ∀ cs : List C, C.nrs cs = true → C.shs n cs = cs
  | [], _ => rfl
  | c :: cs, h => by
    obtain ⟨h1, h2⟩ := Bool.and_eq_true_iff.mp (h : (C.nr c && C.nrs cs) = true)
    show C.sh n c :: C.shs n cs = _
    rw [nr_sh n c h1, nrs_shs n cs h2]
end
mutual
theorem sh_sh (n m : Nat) : ∀ c : C, C.sh n (C.sh m c) = C.sh (n + m) c
  | .tup cs => by show C.tup (C.shs n (C.shs m cs)) = C.tup _; rw [shs_shs n m cs]
  | .ref k => by show C.ref (n + (m + k)) = C.ref (n + m + k); rw [Nat.add_assoc]
  | .frz cs => by show C.frz (C.shs n (C.shs m cs)) = C.frz _; rw [shs_shs n m cs]
  | .non => rfl
  | .bl _ => rfl
  | .int _ => rfl
  | .str _ => rfl
  | .rep _ => rfl
  | .dref k => by show C.dref (n + (m + k)) = C.dref (n + m + k); rw [Nat.add_assoc]
theorem shs_shs (n m : Nat) : ∀ cs : List C, C.shs n (C.shs m cs) = C.shs (n + m) cs
  | [] => rfl
  | c :: cs => by show C.sh n (C.sh m c) :: C.shs n (C.shs m cs) = _; rw [sh_sh n m c, shs_shs n m cs]; rfl
end
mutual
theorem under_sh (n k : Nat) : ∀ c : C, C.under (n + k) (C.sh n c) = C.under k c
  | .tup cs => unders_shs n k cs
  | .ref j => by show decide (n + j < n + k) = decide (j < k); congr 1; simp
  | .frz cs => unders_shs n k cs
  | .non => rfl
  | .bl _ => rfl
  | .int _ => rfl
  | .str _ => rfl
  | .rep _ => rfl
  | .dref j => by show decide (n + j < n + k) = decide (j < k); congr 1; simp
theorem unders_shs (n k : Nat) : ∀ cs : List C, C.unders (n + k) (C.shs n cs) = C.unders k cs
  | [] => rfl
  | c :: cs => by show (C.under (n + k) (C.sh n c) && C.unders (n + k) (C.shs n cs)) = _; rw [under_sh n k c, unders_shs n k cs]; rfl
theorem under_le {a b : Nat} (l : a ≤ b) : ∀ c : C, C.under a c = true → C.under b c = true
  | .tup cs, h => unders_le l cs h
  | .ref j, h => decide_eq_true (Nat.lt_of_lt_of_le (of_decide_eq_true h) l)
  | .frz cs, h => unders_le l cs h
  | .non, _ => rfl
  | .bl _, _ => rfl
  | .int _, _ => rfl
  | .str _, _ => rfl
  | .rep _, _ => rfl
  | .dref j, h => decide_eq_true (Nat.lt_of_lt_of_le (of_decide_eq_true h) l)
theorem unders_le {a b : Nat} (l : a ≤ b) : ∀ cs : List C, C.unders a cs = true → C.unders b cs = true
  | [], _ => rfl
  | c :: cs, h => by
    obtain ⟨h1, h2⟩ := Bool.and_eq_true_iff.mp (h : (C.under a c && C.unders a cs) = true)
    show (C.under b c && C.unders b cs) = true
    rw [under_le l c h1, unders_le l cs h2]; rfl
end
def fh (h0 h : Hc) : Hc := h0 ++ h.map (C.shs h0.length)
def ClH (h0 : Hc) : Prop := h0.all (C.unders h0.length) = true
variable {h0 : Hc}
theorem fh_nil (h0 : Hc) : fh h0 [] = h0 := by unfold fh; simp
theorem fh_len (h : Hc) : (fh h0 h).length = h0.length + h.length := by unfold fh; simp
theorem fh_get (h : Hc) (k : Nat) : (fh h0 h)[h0.length + k]? = (h[k]?).map (C.shs h0.length) := by
  unfold fh
  rw [List.getElem?_append_right (by omega), List.getElem?_map]
  congr 2
  omega
theorem fh_push (h : Hc) (xs : List C) : fh h0 h ++ [C.shs h0.length xs] = fh h0 (h ++ [xs]) := by unfold fh; simp
theorem fh_set (h : Hc) (k : Nat) (xs : List C) : (fh h0 h).set (h0.length + k) (C.shs h0.length xs) = fh h0 (h.set k xs) := by
  unfold fh
  rw [List.set_append_right _ _ (by omega), List.map_set]
  congr 2
  omega
theorem fh_take (h : Hc) (k : Nat) : (fh h0 h).take (h0.length + k) = fh h0 (h.take k) := by
  unfold fh
  rw [List.take_append, List.take_of_length_le (by omega), List.map_take]
  congr 2
  omega
def R.fr (h0 : Hc) {α β : Type} (g : α → β) : R α → R β
  | .ok a h => .ok (g a) (fh h0 h)
  | .err k xs h => .err k (C.shs h0.length xs) (fh h0 h)
  | .bad => .bad
theorem bind_fr {α α' β β' : Type} {g : α → α'} {g2 : β → β'} {r : R α} {r' : R α'} {f : α → Hc → R β} {f' : α' → Hc → R β'} (e : r' = r.fr h0 g) (ef : ∀ a h, f' (g a) (fh h0 h) = (f a h).fr h0 g2) : r'.bind f' = (r.bind f).fr h0 g2 := by
  subst e
  cases r with
  | ok a h => exact ef a h
  | err k xs h => rfl
  | bad => rfl
theorem noerr_fr {α β : Type} {g : α → β} (r : R α) : (r.fr h0 g).noerr = (r.noerr).fr h0 g := by cases r <;> rfl
abbrev shn (h0 : Hc) : C → C := C.sh h0.length
abbrev shsn (h0 : Hc) : List C → List C := C.shs h0.length
theorem seqOf_fr (h : Hc) (x : C) : seqOf (fh h0 h) (shn h0 x) = (seqOf h x).map (shsn h0) := by
  cases x with
  | ref k => exact fh_get h k
  | _ => rfl
theorem mapM_shs {β : Type} (n : Nat) {f g : C → Option β} (e : ∀ c, f (C.sh n c) = g c) : ∀ cs : List C, (C.shs n cs).mapM f = cs.mapM g
  | [] => rfl
  | c :: cs => by
    show List.mapM f (C.sh n c :: C.shs n cs) = _
    rw [List.mapM_cons, List.mapM_cons, e, mapM_shs n e cs]
theorem toD_fr (h : Hc) : ∀ (n : Nat) (c : C), toD (fh h0 h) n (shn h0 c) = toD h n c
  | 0, _ => rfl
  | n + 1, c => by
    have ih := toD_fr h n
    cases c with
    | tup cs => show ((C.shs h0.length cs).mapM (toD (fh h0 h) n)).map PyData.tuple = (cs.mapM (toD h n)).map PyData.tuple; rw [mapM_shs _ ih]
    | frz cs => show ((C.shs h0.length cs).mapM (toD (fh h0 h) n)).map PyData.list = (cs.mapM (toD h n)).map PyData.list; rw [mapM_shs _ ih]
    | ref k =>
      show (match (fh h0 h)[h0.length + k]? with | some cs => (cs.mapM (toD (fh h0 h) n)).map PyData.list | none => none) = (match h[k]? with | some cs => (cs.mapM (toD h n)).map PyData.list | none => none)
      rw [fh_get]
      cases h[k]? with
      | none => rfl
      | some cs => show ((C.shs h0.length cs).mapM (toD (fh h0 h) n)).map PyData.list = _; rw [mapM_shs _ ih]
    | _ => rfl
theorem eqFar_fr (h : Hc) (n : Nat) (x y : C) : eqFar (fh h0 h) n (shn h0 x) (shn h0 y) = eqFar h n x y := by
  unfold eqFar
  rw [toD_fr, toD_fr]
theorem both_fr {f g : C → C → Option Bool} {n : Nat} (e : ∀ x y, f (C.sh n x) (C.sh n y) = g x y) : ∀ xs ys : List C, both f (C.shs n xs) (C.shs n ys) = both g xs ys
  | [], [] => rfl
  | [], _ :: _ => rfl
  | _ :: _, [] => rfl
  | x :: xs, y :: ys => by
    show (match f (C.sh n x) (C.sh n y) with
      | none => none
      | some b => match both f (C.shs n xs) (C.shs n ys) with
        | none => none
        | some c => some (b && c)) = (match g x y with
      | none => none
      | some b => match both g xs ys with
        | none => none
        | some c => some (b && c))
    rw [e, both_fr e xs ys]
theorem ceq_fr (h : Hc) : ∀ (n : Nat) (x y : C), ceq (fh h0 h) n (shn h0 x) (shn h0 y) = ceq h n x y
  | 0, _, _ => rfl
  | n + 1, x, y => by
    have ih := ceq_fr h n
    have ef := eqFar_fr (h0 := h0) h (n + 1) x y
    cases x <;> cases y
    case tup.tup xs ys =>
      show (if (C.shs h0.length xs).length = (C.shs h0.length ys).length then both (ceq (fh h0 h) n) (C.shs h0.length xs) (C.shs h0.length ys) else eqFar (fh h0 h) (n + 1) _ _) = (if xs.length = ys.length then both (ceq h n) xs ys else eqFar h (n + 1) _ _)
      rw [shs_len, shs_len, both_fr ih, ← ef]
    case ref.ref a b =>
      show (match (fh h0 h)[h0.length + a]?, (fh h0 h)[h0.length + b]? with
        | some xs, some ys => if xs.length = ys.length then both (ceq (fh h0 h) n) xs ys else eqFar (fh h0 h) (n + 1) (.ref (h0.length + a)) (.ref (h0.length + b))
        | _, _ => none) = (match h[a]?, h[b]? with
        | some xs, some ys => if xs.length = ys.length then both (ceq h n) xs ys else eqFar h (n + 1) (.ref a) (.ref b)
        | _, _ => none)
      rw [fh_get, fh_get]
      cases h[a]? with
      | none => rfl
      | some xs =>
        cases h[b]? with
        | none => rfl
        | some ys =>
          show (if (C.shs h0.length xs).length = (C.shs h0.length ys).length then both (ceq (fh h0 h) n) (C.shs h0.length xs) (C.shs h0.length ys) else eqFar (fh h0 h) (n + 1) _ _) = (if xs.length = ys.length then both (ceq h n) xs ys else eqFar h (n + 1) _ _)
          rw [shs_len, shs_len, both_fr ih, ← ef]
          rfl
    case rep.rep d e =>
      show (if pdEq d e then some true else eqFar (fh h0 h) (n + 1) (.rep d) (.rep e)) = (if pdEq d e then some true else eqFar h (n + 1) (.rep d) (.rep e))
      rw [← ef]; rfl
    case int.int i j => rfl
    all_goals exact ef
theorem addC_fr (h : Hc) (x y : C) : addC (shn h0 x) (shn h0 y) (fh h0 h) = (addC x y h).fr h0 (shn h0) := by
  cases x <;> cases y
  case tup.tup xs ys =>
    show (if lineN < (C.shs h0.length xs).length + (C.shs h0.length ys).length then R.bad else .ok (.tup (C.shs h0.length xs ++ C.shs h0.length ys)) (fh h0 h)) = R.fr h0 (shn h0) (if lineN < xs.length + ys.length then .bad else .ok (.tup (xs ++ ys)) h)
    rw [shs_len, shs_len, ← shs_app]
    split <;> rfl
  case ref.ref a b =>
    show (match (fh h0 h)[h0.length + a]?, (fh h0 h)[h0.length + b]? with
      | some xs, some ys => if lineN < xs.length + ys.length then R.bad else .ok (C.ref (fh h0 h).length) (fh h0 h ++ [xs ++ ys])
      | _, _ => .bad) = R.fr h0 (shn h0) (match h[a]?, h[b]? with
      | some xs, some ys => if lineN < xs.length + ys.length then R.bad else .ok (C.ref h.length) (h ++ [xs ++ ys])
      | _, _ => .bad)
    rw [fh_get, fh_get]
    cases h[a]? with
    | none => rfl
    | some xs =>
      cases h[b]? with
      | none => rfl
      | some ys =>
        show (if lineN < (shsn h0 xs).length + (shsn h0 ys).length then R.bad else .ok (C.ref (fh h0 h).length) (fh h0 h ++ [shsn h0 xs ++ shsn h0 ys])) = R.fr h0 (shn h0) (if lineN < xs.length + ys.length then R.bad else .ok (C.ref h.length) (h ++ [xs ++ ys]))
        rw [shs_len, shs_len, ← shs_app, fh_push, fh_len]
        split <;> rfl
  case str.str a b =>
    show (if lineN < a.length + b.length then R.bad else .ok (.str (a ++ b)) (fh h0 h)) = R.fr h0 (shn h0) (if lineN < a.length + b.length then R.bad else .ok (.str (a ++ b)) h)
    split <;> rfl
  all_goals rfl
theorem subC_fr (h : Hc) (x y : C) : subC (shn h0 x) (shn h0 y) (fh h0 h) = (subC x y h).fr h0 (shn h0) := by
  cases x <;> cases y <;> rfl
theorem mulC_fr (h : Hc) (x y : C) : mulC (shn h0 x) (shn h0 y) (fh h0 h) = (mulC x y h).fr h0 (shn h0) := by
  cases x <;> cases y
  case int.int i j =>
    show (if tooBig i || tooBig j then R.bad else .ok (C.int (i * j)) (fh h0 h)) = R.fr h0 (shn h0) (if tooBig i || tooBig j then R.bad else .ok (C.int (i * j)) h)
    split <;> rfl
  case ref.int a k =>
    show (match (fh h0 h)[h0.length + a]? with
      | some xs => if k < 0 ∨ lineN < xs.length * k.toNat ∨ 1000000000 ≤ k then R.bad else .ok (C.ref (fh h0 h).length) (fh h0 h ++ [(List.replicate k.toNat xs).flatten])
      | _ => .bad) = R.fr h0 (shn h0) (match h[a]? with
      | some xs => if k < 0 ∨ lineN < xs.length * k.toNat ∨ 1000000000 ≤ k then R.bad else .ok (C.ref h.length) (h ++ [(List.replicate k.toNat xs).flatten])
      | _ => .bad)
    rw [fh_get]
    cases h[a]? with
    | none => rfl
    | some xs =>
      show (if k < 0 ∨ lineN < (shsn h0 xs).length * k.toNat ∨ 1000000000 ≤ k then R.bad else .ok (C.ref (fh h0 h).length) (fh h0 h ++ [(List.replicate k.toNat (shsn h0 xs)).flatten])) = R.fr h0 (shn h0) (if k < 0 ∨ lineN < xs.length * k.toNat ∨ 1000000000 ≤ k then R.bad else .ok (C.ref h.length) (h ++ [(List.replicate k.toNat xs).flatten]))
      have e : (List.replicate k.toNat (shsn h0 xs)).flatten = shsn h0 (List.replicate k.toNat xs).flatten := by
        show (List.replicate k.toNat (C.shs h0.length xs)).flatten = C.shs h0.length (List.replicate k.toNat xs).flatten
        rw [shs_map, shs_map, List.map_flatten, List.map_replicate]
      rw [shs_len, e, fh_push, fh_len]
      split <;> rfl
  case tup.int xs k =>
    show (if shsn h0 xs = [] ∨ k < 2 ∨ 1000 < k ∨ 1000 < (shsn h0 xs).length then R.bad else .ok (C.tup (List.replicate k.toNat (shsn h0 xs)).flatten) (fh h0 h)) = R.fr h0 (shn h0) (if xs = [] ∨ k < 2 ∨ 1000 < k ∨ 1000 < xs.length then R.bad else .ok (C.tup (List.replicate k.toNat xs).flatten) h)
    have e : (List.replicate k.toNat (shsn h0 xs)).flatten = shsn h0 (List.replicate k.toNat xs).flatten := by
      show (List.replicate k.toNat (C.shs h0.length xs)).flatten = C.shs h0.length (List.replicate k.toNat xs).flatten
      rw [shs_map, shs_map, List.map_flatten, List.map_replicate]
    rw [shs_len, e]
    by_cases c : xs = [] ∨ k < 2 ∨ 1000 < k ∨ 1000 < xs.length
    · rw [if_pos c, if_pos (by rw [shs_nil]; exact c)]; rfl
    · rw [if_neg c, if_neg (by rw [shs_nil]; exact c)]; rfl
  all_goals rfl
theorem divC_fr (h : Hc) (x y : C) : divC (shn h0 x) (shn h0 y) (fh h0 h) = (divC x y h).fr h0 (shn h0) := by
  cases x <;> cases y
  case int.int i j =>
    show (if j = 0 ∨ divLine ≤ j.natAbs then R.bad else .ok (C.int (i.fdiv j)) (fh h0 h)) = R.fr h0 (shn h0) (if j = 0 ∨ divLine ≤ j.natAbs then R.bad else .ok (C.int (i.fdiv j)) h)
    split <;> rfl
  all_goals rfl
theorem modC_fr (h : Hc) (x y : C) : modC (shn h0 x) (shn h0 y) (fh h0 h) = (modC x y h).fr h0 (shn h0) := by
  cases x <;> cases y
  case int.int i j =>
    show (if j = 0 then R.bad else .ok (C.int (i.fmod j)) (fh h0 h)) = R.fr h0 (shn h0) (if j = 0 then R.bad else .ok (C.int (i.fmod j)) h)
    split <;> rfl
  all_goals rfl
theorem powC_fr (h : Hc) (x y : C) : powC (shn h0 x) (shn h0 y) (fh h0 h) = (powC x y h).fr h0 (shn h0) := by
  cases x <;> cases y
  case int.int i j =>
    show (if 0 ≤ j ∧ j ≤ 1000 ∧ i.natAbs < 1606938044258990275541962092341162602522202993782792835301376 then R.ok (C.int (i ^ j.toNat)) (fh h0 h) else .bad) = R.fr h0 (shn h0) (if 0 ≤ j ∧ j ≤ 1000 ∧ i.natAbs < 1606938044258990275541962092341162602522202993782792835301376 then R.ok (C.int (i ^ j.toNat)) h else .bad)
    split <;> rfl
  all_goals rfl
theorem shlC_fr (h : Hc) (x y : C) : shlC (shn h0 x) (shn h0 y) (fh h0 h) = (shlC x y h).fr h0 (shn h0) := by
  cases x <;> cases y
  case int.int i j =>
    show (if 0 ≤ j ∧ j ≤ 1000 ∧ i.natAbs < 18446744073709551616 then R.ok (C.int (i * 2 ^ j.toNat)) (fh h0 h) else .bad) = R.fr h0 (shn h0) (if 0 ≤ j ∧ j ≤ 1000 ∧ i.natAbs < 18446744073709551616 then R.ok (C.int (i * 2 ^ j.toNat)) h else .bad)
    split <;> rfl
  all_goals rfl
theorem shrC_fr (h : Hc) (x y : C) : shrC (shn h0 x) (shn h0 y) (fh h0 h) = (shrC x y h).fr h0 (shn h0) := by
  cases x <;> cases y
  case int.int i j =>
    show (if 0 ≤ j ∧ j ≤ 1000 then R.ok (C.int (i / 2 ^ j.toNat)) (fh h0 h) else .bad) = R.fr h0 (shn h0) (if 0 ≤ j ∧ j ≤ 1000 then R.ok (C.int (i / 2 ^ j.toNat)) h else .bad)
    split <;> rfl
  all_goals rfl
theorem binop_fr (o : Op) (h : Hc) (x y : C) : binop o (shn h0 x) (shn h0 y) (fh h0 h) = (binop o x y h).fr h0 (shn h0) := by
  cases o
  · exact addC_fr h x y
  · exact subC_fr h x y
  · exact mulC_fr h x y
  · exact divC_fr h x y
  · exact modC_fr h x y
  · exact powC_fr h x y
  · show bandC (shn h0 x) (shn h0 y) (fh h0 h) = R.fr h0 (shn h0) (bandC x y h)
    cases x <;> cases y <;> rfl
  · show borC (shn h0 x) (shn h0 y) (fh h0 h) = R.fr h0 (shn h0) (borC x y h)
    cases x <;> cases y <;> rfl
  · exact shlC_fr h x y
  · exact shrC_fr h x y
theorem augC_fr (o : Op) (h : Hc) (i j : Int) : augC o i j (fh h0 h) = (augC o i j h).fr h0 (shn h0) := by
  cases o
  case mul =>
    show (if tooBig i || tooBig j then R.bad else .ok (C.int (i * j)) (fh h0 h)) = R.fr h0 (shn h0) (if tooBig i || tooBig j then R.bad else .ok (C.int (i * j)) h)
    split <;> rfl
  case shr =>
    show (if 0 ≤ j ∧ j ≤ 1000 then R.ok (C.int (i / 2 ^ j.toNat)) (fh h0 h) else .bad) = R.fr h0 (shn h0) (if 0 ≤ j ∧ j ≤ 1000 then R.ok (C.int (i / 2 ^ j.toNat)) h else .bad)
    split <;> rfl
  all_goals rfl
theorem flatC_fr (x : C) : flatC (shn h0 x) = flatC x := by cases x <;> rfl
theorem vOf_fr (x : C) : vOf (shn h0 x) = vOf x := by cases x <;> rfl
theorem flats_fr : ∀ xs : List C, (shsn h0 xs).all flatC = xs.all flatC
  | [] => rfl
  | c :: cs => by
    show (flatC (shn h0 c) && (shsn h0 cs).all flatC) = (flatC c && cs.all flatC)
    rw [flatC_fr, flats_fr cs]
theorem anyV_fr (v : L2.V) : ∀ xs : List C, ((shsn h0 xs).any fun c => L2.eqV (vOf c) v) = xs.any fun c => L2.eqV (vOf c) v
  | [] => rfl
  | c :: cs => by
    show (L2.eqV (vOf (shn h0 c)) v || (shsn h0 cs).any fun c => L2.eqV (vOf c) v) = (L2.eqV (vOf c) v || cs.any fun c => L2.eqV (vOf c) v)
    rw [vOf_fr, anyV_fr v cs]
theorem inS_fr (x : C) (z : Str) : inS (shn h0 x) z = inS x z := by cases x <;> rfl
theorem inC_fr (h : Hc) (x y : C) : inC (shn h0 x) (shn h0 y) (fh h0 h) = inC x y h := by
  have sq : (match seqOf (fh h0 h) (shn h0 y) with
      | none => none
      | some ys => if flatC (shn h0 x) && ys.all flatC then some (ys.any fun c => L2.eqV (vOf c) (vOf (shn h0 x))) else inD (toD (fh h0 h) 60 (shn h0 x)) (toD (fh h0 h) 60 (shn h0 y))) = (match seqOf h y with
      | none => none
      | some ys => if flatC x && ys.all flatC then some (ys.any fun c => L2.eqV (vOf c) (vOf x)) else inD (toD h 60 x) (toD h 60 y)) := by
    rw [seqOf_fr, toD_fr, toD_fr, flatC_fr, vOf_fr]
    cases seqOf h y with
    | none => rfl
    | some ys =>
      show (if flatC x && (shsn h0 ys).all flatC then some ((shsn h0 ys).any fun c => L2.eqV (vOf c) (vOf x)) else inD (toD h 60 x) (toD h 60 y)) = _
      rw [flats_fr, anyV_fr]
  cases y with
  | str z => exact inS_fr x z
  | ref k => exact sq
  | non => exact sq
  | bl _ => exact sq
  | int _ => exact sq
  | tup _ => exact sq
  | frz _ => exact sq
  | rep _ => exact sq
  | dref _ => exact sq
theorem intsC_fr : ∀ xs : List C, intsC (shsn h0 xs) = intsC xs
  | [] => rfl
  | c :: cs => by
    cases c
    case int i => show (intsC (shsn h0 cs)).map (i :: ·) = (intsC cs).map (i :: ·); rw [intsC_fr cs]
    all_goals rfl
theorem ordT_fr (f : List Int → List Int → Bool) (h : Hc) (xs ys : List C) : ordT f (shsn h0 xs) (shsn h0 ys) (fh h0 h) = (ordT f xs ys h).fr h0 (shn h0) := by
  unfold ordT
  rw [intsC_fr, intsC_fr]
  cases intsC xs with
  | none => rfl
  | some a => cases intsC ys <;> rfl
theorem isS_fr (x y : C) : isS (shn h0 x) (shn h0 y) = isS x y := by cases x <;> cases y <;> rfl
theorem cmpop_fr (o : Cm) (h : Hc) (x y : C) : cmpop o (shn h0 x) (shn h0 y) (fh h0 h) = (cmpop o x y h).fr h0 (shn h0) := by
  cases o
  case eq =>
    show (match ceq (fh h0 h) 40 (shn h0 x) (shn h0 y) with
      | some b => R.ok (C.bl b) (fh h0 h)
      | none => .bad) = R.fr h0 (shn h0) (match ceq h 40 x y with
      | some b => R.ok (C.bl b) h
      | none => .bad)
    rw [ceq_fr]
    cases ceq h 40 x y <;> rfl
  case ne =>
    show (match ceq (fh h0 h) 40 (shn h0 x) (shn h0 y) with
      | some b => R.ok (C.bl (!b)) (fh h0 h)
      | none => .bad) = R.fr h0 (shn h0) (match ceq h 40 x y with
      | some b => R.ok (C.bl (!b)) h
      | none => .bad)
    rw [ceq_fr]
    cases ceq h 40 x y <;> rfl
  case is_ =>
    show (match isS (shn h0 x) (shn h0 y) with
      | some b => R.ok (C.bl b) (fh h0 h)
      | none => .bad) = R.fr h0 (shn h0) (match isS x y with
      | some b => R.ok (C.bl b) h
      | none => .bad)
    rw [isS_fr]
    cases isS x y <;> rfl
  case isn =>
    show (match isS (shn h0 x) (shn h0 y) with
      | some b => R.ok (C.bl (!b)) (fh h0 h)
      | none => .bad) = R.fr h0 (shn h0) (match isS x y with
      | some b => R.ok (C.bl (!b)) h
      | none => .bad)
    rw [isS_fr]
    cases isS x y <;> rfl
  case in_ =>
    show (match inC (shn h0 x) (shn h0 y) (fh h0 h) with
      | some b => R.ok (C.bl b) (fh h0 h)
      | none => .bad) = R.fr h0 (shn h0) (match inC x y h with
      | some b => R.ok (C.bl b) h
      | none => .bad)
    rw [inC_fr]
    cases inC x y h <;> rfl
  case nin =>
    show (match inC (shn h0 x) (shn h0 y) (fh h0 h) with
      | some b => R.ok (C.bl (!b)) (fh h0 h)
      | none => .bad) = R.fr h0 (shn h0) (match inC x y h with
      | some b => R.ok (C.bl (!b)) h
      | none => .bad)
    rw [inC_fr]
    cases inC x y h <;> rfl
  all_goals (cases x <;> cases y <;> first | rfl | exact ordT_fr _ h _ _)
theorem truth_fr (h : Hc) (x : C) : truth (shn h0 x) (fh h0 h) = (truth x h).fr h0 id := by
  have e := seqOf_fr (h0 := h0) h x
  cases x
  case str z =>
    show (if z.length ≤ lineN then R.ok ((z.length : Int) != 0) (fh h0 h) else .bad) = R.fr h0 id (if z.length ≤ lineN then R.ok ((z.length : Int) != 0) h else .bad)
    split <;> rfl
  case ref k =>
    show (match seqOf (fh h0 h) (shn h0 (.ref k)) with
      | some xs => R.ok (!xs.isEmpty) (fh h0 h)
      | none => .bad) = R.fr h0 id (match seqOf h (.ref k) with
      | some xs => R.ok (!xs.isEmpty) h
      | none => .bad)
    rw [e]
    cases seqOf h (.ref k) with
    | none => rfl
    | some xs => show R.ok (!(shsn h0 xs).isEmpty) _ = _; rw [shs_emp]; rfl
  case tup cs => show R.ok (!(shsn h0 cs).isEmpty) _ = _; rw [shs_emp]; rfl
  case frz cs => show R.ok (!(shsn h0 cs).isEmpty) _ = _; rw [shs_emp]; rfl
  all_goals rfl
theorem itemS_fr (h : Hc) (x : C) (i : Int) : itemS (shn h0 x) i (fh h0 h) = (itemS x i h).fr h0 (shn h0) := by
  cases x
  case str z =>
    show (if z.length ≤ lineN then (match (ixC z.cps.toList.length i).bind fun j => z.cps.toList[j]? with
      | some c => R.ok (.str ⟨#[c]⟩) (fh h0 h)
      | none => .bad) else .bad) = R.fr h0 (shn h0) (if z.length ≤ lineN then (match (ixC z.cps.toList.length i).bind fun j => z.cps.toList[j]? with
      | some c => R.ok (.str ⟨#[c]⟩) h
      | none => .bad) else .bad)
    split
    · cases (ixC z.cps.toList.length i).bind fun j => z.cps.toList[j]? <;> rfl
    · rfl
  all_goals rfl
theorem item_fr (h : Hc) (x y : C) : item (shn h0 x) (shn h0 y) (fh h0 h) = (item x y h).fr h0 (shn h0) := by
  cases y
  case int i =>
    show (match seqOf (fh h0 h) (shn h0 x) with
      | some xs => match (ixC xs.length i).bind fun j => xs[j]? with
        | some c => R.ok c (fh h0 h)
        | none => .bad
      | none => itemS (shn h0 x) i (fh h0 h)) = R.fr h0 (shn h0) (match seqOf h x with
      | some xs => match (ixC xs.length i).bind fun j => xs[j]? with
        | some c => R.ok c h
        | none => .bad
      | none => itemS x i h)
    rw [seqOf_fr]
    cases seqOf h x with
    | none => exact itemS_fr h x i
    | some xs =>
      show (match (ixC (shsn h0 xs).length i).bind fun j => (shsn h0 xs)[j]? with
        | some c => R.ok c (fh h0 h)
        | none => .bad) = R.fr h0 (shn h0) (match (ixC xs.length i).bind fun j => xs[j]? with
        | some c => R.ok c h
        | none => .bad)
      rw [shs_len]
      cases ixC xs.length i with
      | none => rfl
      | some j =>
        show (match (shsn h0 xs)[j]? with
          | some c => R.ok c (fh h0 h)
          | none => .bad) = R.fr h0 (shn h0) (match xs[j]? with
          | some c => R.ok c h
          | none => .bad)
        rw [shs_get]
        cases xs[j]? <;> rfl
  all_goals rfl
theorem setitem_fr (h : Hc) (x y z : C) : setitem (shn h0 x) (shn h0 y) (shn h0 z) (fh h0 h) = (setitem x y z h).fr h0 id := by
  cases x <;> cases y
  case ref.int n i =>
    show (match (fh h0 h)[h0.length + n]? with
      | some xs => match ixC xs.length i with
        | some j => R.ok () ((fh h0 h).set (h0.length + n) (xs.set j (shn h0 z)))
        | none => .bad
      | none => .bad) = R.fr h0 id (match h[n]? with
      | some xs => match ixC xs.length i with
        | some j => R.ok () (h.set n (xs.set j z))
        | none => .bad
      | none => .bad)
    rw [fh_get]
    cases h[n]? with
    | none => rfl
    | some xs =>
      show (match ixC (shsn h0 xs).length i with
        | some j => R.ok () ((fh h0 h).set (h0.length + n) ((shsn h0 xs).set j (shn h0 z)))
        | none => .bad) = R.fr h0 id (match ixC xs.length i with
        | some j => R.ok () (h.set n (xs.set j z))
        | none => .bad)
      rw [shs_len]
      cases ixC xs.length i with
      | none => rfl
      | some j => show R.ok () ((fh h0 h).set (h0.length + n) ((shsn h0 xs).set j (shn h0 z))) = R.ok () (fh h0 (h.set n (xs.set j z))); rw [← shs_set, fh_set]
  all_goals rfl
theorem cutC_fr (xs : List C) (lo hi : Option Int) : cutC (shsn h0 xs) lo hi = shsn h0 (cutC xs lo hi) := by
  unfold cutC
  rw [shs_len, ← shs_drop, ← shs_take]
theorem slice_fr (h : Hc) (x : C) (lo hi : Option Int) : slice (shn h0 x) lo hi (fh h0 h) = (slice x lo hi h).fr h0 (shn h0) := by
  cases x
  case ref n =>
    show (match (fh h0 h)[h0.length + n]? with
      | some xs => R.ok (C.ref (fh h0 h).length) (fh h0 h ++ [cutC xs lo hi])
      | none => .bad) = R.fr h0 (shn h0) (match h[n]? with
      | some xs => R.ok (C.ref h.length) (h ++ [cutC xs lo hi])
      | none => .bad)
    rw [fh_get]
    cases h[n]? with
    | none => rfl
    | some xs =>
      show R.ok (C.ref (fh h0 h).length) (fh h0 h ++ [cutC (shsn h0 xs) lo hi]) = R.ok (C.ref (h0.length + h.length)) (fh h0 (h ++ [cutC xs lo hi]))
      rw [cutC_fr, fh_push, fh_len]
  case frz xs =>
    show R.ok (C.ref (fh h0 h).length) (fh h0 h ++ [cutC (shsn h0 xs) lo hi]) = R.ok (C.ref (h0.length + h.length)) (fh h0 (h ++ [cutC xs lo hi]))
    rw [cutC_fr, fh_push, fh_len]
  case tup xs =>
    show R.ok (C.tup (cutC (shsn h0 xs) lo hi)) (fh h0 h) = R.ok (C.tup (C.shs h0.length (cutC xs lo hi))) (fh h0 h)
    rw [cutC_fr]
  all_goals rfl
theorem isiC_fr (x : C) (t : Ty) : isiC (shn h0 x) t = isiC x t := by cases x <;> rfl
theorem ints_fr (h : Hc) (n : Nat) : ((fh h0 h)[h0.length + n]?).bind intsC = (h[n]?).bind intsC := by
  rw [fh_get]
  cases h[n]? with
  | none => rfl
  | some xs => exact intsC_fr xs
theorem boolsC_fr : ∀ xs : List C, boolsC (shsn h0 xs) = boolsC xs
  | [] => rfl
  | c :: cs => by
    cases c
    case bl i => show (boolsC (shsn h0 cs)).map (i :: ·) = (boolsC cs).map (i :: ·); rw [boolsC_fr cs]
    all_goals rfl
theorem bools_fr (h : Hc) (n : Nat) : ((fh h0 h)[h0.length + n]?).bind boolsC = (h[n]?).bind boolsC := by
  rw [fh_get]
  cases h[n]? with
  | none => rfl
  | some xs => exact boolsC_fr xs
theorem int_fr (ns : List Int) : shsn h0 (ns.map C.int) = ns.map C.int := by
  show C.shs h0.length (ns.map C.int) = _
  rw [shs_map, List.map_map]
  rfl
theorem entIs_fr (ns : List Int) (e : C) : entIs ns (shn h0 e) = entIs ns e := by
  cases e with
  | tup l =>
    cases l with
    | nil => rfl
    | cons c ks => show decide (intsC (shsn h0 ks) = some ns) = decide (intsC ks = some ns); rw [intsC_fr]
  | _ => rfl
theorem entV_fr (e : C) : entV (shn h0 e) = (entV e).map (shn h0) := by
  cases e with
  | tup l => cases l <;> rfl
  | _ => rfl
theorem entK_fr (e : C) : entK (shn h0 e) = entK e := by
  cases e with
  | tup l =>
    cases l with
    | nil => rfl
    | cons c ks => exact intsC_fr ks
  | _ => rfl
theorem dgetC_fr (ns : List Int) : ∀ es : List C, dgetC ns (shsn h0 es) = (dgetC ns es).map (shn h0)
  | [] => rfl
  | e :: es => by
    show ((shn h0 e :: shsn h0 es).find? (entIs ns)).bind entV = (((e :: es).find? (entIs ns)).bind entV).map (shn h0)
    rw [List.find?_cons, List.find?_cons, entIs_fr]
    cases entIs ns e with
    | true => exact entV_fr e
    | false => exact dgetC_fr ns es
theorem dputC_fr (ns : List Int) (c : C) (es : List C) : dputC ns (shn h0 c) (shsn h0 es) = shsn h0 (dputC ns c es) := by
  have he : (shsn h0 es).any (entIs ns) = es.any (entIs ns) := by
    show (C.shs h0.length es).any (entIs ns) = _
    rw [shs_map, List.any_map]
    congr 1
    funext e
    exact entIs_fr ns e
  have hc : shn h0 (.tup (c :: ns.map .int)) = .tup (shn h0 c :: ns.map .int) := by
    show C.tup (C.sh h0.length c :: shsn h0 (ns.map C.int)) = _
    rw [int_fr]
  unfold dputC
  rw [he]
  split
  · show List.map _ (C.shs h0.length es) = C.shs h0.length (List.map _ es)
    rw [shs_map, shs_map, List.map_map, List.map_map]
    refine List.map_congr_left fun e _ => ?_
    show (if entIs ns (shn h0 e) then C.tup (shn h0 c :: ns.map .int) else shn h0 e) = shn h0 (if entIs ns e then .tup (c :: ns.map .int) else e)
    rw [entIs_fr]
    split
    · exact hc.symm
    · rfl
  · show C.shs h0.length es ++ [.tup (shn h0 c :: ns.map .int)] = C.shs h0.length (es ++ [.tup (c :: ns.map .int)])
    rw [shs_app, ← hc]
    rfl
theorem keyN_fr (y : C) : keyN (shn h0 y) = keyN y := by
  cases y with
  | tup ks => exact intsC_fr ks
  | _ => rfl
/-- a cell's entries -/
def cellE : Option (List C) → Option (List C)
  | some (.bl true :: es) => some es
  | _ => none
theorem cellE_fr (o : Option (List C)) : cellE (o.map (shsn h0)) = (cellE o).map (shsn h0) := by
  cases o with
  | none => rfl
  | some cs =>
    cases cs with
    | nil => rfl
    | cons c es =>
      cases c with
      | bl b => cases b <;> rfl
      | _ => rfl
theorem dget_eq (x y : C) (h : Hc) : dget x y h = match x with
    | .dref n => match cellE (h[n]?) with
      | some es => match keyN y with
        | some ns => match dgetC ns es with
          | some c => .ok c h
          | none => .bad
        | none => .bad
      | none => .bad
    | _ => .bad := by
  cases x with
  | dref n =>
    unfold dget
    dsimp only
    cases h[n]? with
    | none => rfl
    | some cs =>
      cases cs with
      | nil => rfl
      | cons c es =>
        cases c with
        | bl b => cases b <;> rfl
        | _ => rfl
  | _ => rfl
theorem dput_eq (x : C) (ks : List C) (z : C) (h : Hc) : dput x ks z h = match x with
    | .dref n => match cellE (h[n]?) with
      | some es => match intsC ks with
        | some ns => if es.length < lineN then .ok () (h.set n (.bl true :: dputC ns z es)) else .bad
        | none => .bad
      | none => .bad
    | _ => .bad := by
  cases x with
  | dref n =>
    unfold dput
    dsimp only
    cases h[n]? with
    | none => rfl
    | some cs =>
      cases cs with
      | nil => rfl
      | cons c es =>
        cases c with
        | bl b => cases b <;> rfl
        | _ => rfl
  | _ => rfl
theorem dsort_eq (x : C) (h : Hc) : dsort x h = match x with
    | .dref n => match cellE (h[n]?) with
      | some es => match es.mapM entK with
        | some kss => if kss.length < 64 ∧ keysOK kss = true then .ok (.ref h.length) (h ++ [(sortK kss).map fun ns => .tup (ns.map .int)]) else .bad
        | none => .bad
      | none => .bad
    | _ => .bad := by
  cases x with
  | dref n =>
    unfold dsort
    dsimp only
    cases h[n]? with
    | none => rfl
    | some cs =>
      cases cs with
      | nil => rfl
      | cons c es =>
        cases c with
        | bl b => cases b <;> rfl
        | _ => rfl
  | _ => rfl
theorem dget_fr (x y : C) (h : Hc) : dget (shn h0 x) (shn h0 y) (fh h0 h) = (dget x y h).fr h0 (shn h0) := by
  rw [dget_eq, dget_eq]
  cases x with
  | dref n =>
    show (match cellE ((fh h0 h)[h0.length + n]?) with
      | some es => match keyN (shn h0 y) with
        | some ns => match dgetC ns es with
          | some c => R.ok c (fh h0 h)
          | none => .bad
        | none => .bad
      | none => .bad) = R.fr h0 (shn h0) (match cellE (h[n]?) with
      | some es => match keyN y with
        | some ns => match dgetC ns es with
          | some c => .ok c h
          | none => .bad
        | none => .bad
      | none => .bad)
    rw [fh_get, cellE_fr, keyN_fr]
    cases cellE (h[n]?) with
    | none => rfl
    | some es =>
      cases keyN y with
      | none => rfl
      | some ns =>
        show (match dgetC ns (shsn h0 es) with
          | some c => R.ok c (fh h0 h)
          | none => .bad) = R.fr h0 (shn h0) (match dgetC ns es with
          | some c => .ok c h
          | none => .bad)
        rw [dgetC_fr]
        cases dgetC ns es <;> rfl
  | _ => rfl
theorem dput_fr (x : C) (ks : List C) (z : C) (h : Hc) : dput (shn h0 x) (shsn h0 ks) (shn h0 z) (fh h0 h) = (dput x ks z h).fr h0 id := by
  rw [dput_eq, dput_eq]
  cases x with
  | dref n =>
    show (match cellE ((fh h0 h)[h0.length + n]?) with
      | some es => match intsC (shsn h0 ks) with
        | some ns => if es.length < lineN then R.ok () ((fh h0 h).set (h0.length + n) (.bl true :: dputC ns (shn h0 z) es)) else .bad
        | none => .bad
      | none => .bad) = R.fr h0 id (match cellE (h[n]?) with
      | some es => match intsC ks with
        | some ns => if es.length < lineN then .ok () (h.set n (.bl true :: dputC ns z es)) else .bad
        | none => .bad
      | none => .bad)
    rw [fh_get, cellE_fr, intsC_fr]
    cases cellE (h[n]?) with
    | none => rfl
    | some es =>
      cases intsC ks with
      | none => rfl
      | some ns =>
        show (if (shsn h0 es).length < lineN then R.ok () ((fh h0 h).set (h0.length + n) (.bl true :: dputC ns (shn h0 z) (shsn h0 es))) else .bad) = R.fr h0 id (if es.length < lineN then .ok () (h.set n (.bl true :: dputC ns z es)) else .bad)
        rw [shs_len, dputC_fr]
        split
        · show R.ok () ((fh h0 h).set (h0.length + n) (C.shs h0.length (.bl true :: dputC ns z es))) = _
          rw [fh_set]
          rfl
        · rfl
  | _ => rfl
theorem mapK_fr : ∀ es : List C, (shsn h0 es).mapM entK = es.mapM entK := fun es => mapM_shs h0.length (f := entK) (g := entK) (fun c => entK_fr c) es
theorem dsort_fr (x : C) (h : Hc) : dsort (shn h0 x) (fh h0 h) = (dsort x h).fr h0 (shn h0) := by
  rw [dsort_eq, dsort_eq]
  cases x with
  | dref n =>
    show (match cellE ((fh h0 h)[h0.length + n]?) with
      | some es => match es.mapM entK with
        | some kss => if kss.length < 64 ∧ keysOK kss = true then R.ok (C.ref (fh h0 h).length) (fh h0 h ++ [(sortK kss).map fun ns => .tup (ns.map .int)]) else .bad
        | none => .bad
      | none => .bad) = R.fr h0 (shn h0) (match cellE (h[n]?) with
      | some es => match es.mapM entK with
        | some kss => if kss.length < 64 ∧ keysOK kss = true then .ok (.ref h.length) (h ++ [(sortK kss).map fun ns => .tup (ns.map .int)]) else .bad
        | none => .bad
      | none => .bad)
    rw [fh_get, cellE_fr]
    cases cellE (h[n]?) with
    | none => rfl
    | some es =>
      show (match (shsn h0 es).mapM entK with
        | some kss => if kss.length < 64 ∧ keysOK kss = true then R.ok (C.ref (fh h0 h).length) (fh h0 h ++ [(sortK kss).map fun ns => .tup (ns.map .int)]) else .bad
        | none => .bad) = R.fr h0 (shn h0) (match es.mapM entK with
        | some kss => if kss.length < 64 ∧ keysOK kss = true then .ok (.ref h.length) (h ++ [(sortK kss).map fun ns => .tup (ns.map .int)]) else .bad
        | none => .bad)
      rw [mapK_fr]
      cases es.mapM entK with
      | none => rfl
      | some kss =>
        have hs : ∀ l : List (List Int), shsn h0 (l.map fun ns => C.tup (ns.map .int)) = l.map fun ns => C.tup (ns.map .int) := fun l => by
          show C.shs h0.length _ = _
          rw [shs_map, List.map_map]
          refine List.map_congr_left fun ns _ => ?_
          show C.tup (shsn h0 (ns.map C.int)) = _
          rw [int_fr]
        dsimp only
        split
        · show R.ok (C.ref (fh h0 h).length) (fh h0 h ++ [(sortK kss).map fun ns => C.tup (ns.map .int)]) = R.ok (C.ref (h0.length + h.length)) (fh h0 (h ++ [(sortK kss).map fun ns => C.tup (ns.map .int)]))
          rw [fh_len, ← fh_push, show C.shs h0.length ((sortK kss).map fun ns => C.tup (ns.map .int)) = _ from hs (sortK kss)]
        · rfl
  | _ => rfl
theorem inRngB_fr (neg : Bool) (x : C) (ys : List C) (h : Hc) : inRngB neg (shn h0 x) (shsn h0 ys) (fh h0 h) = (inRngB neg x ys h).fr h0 id := by
  cases x with
  | int i =>
    match ys with
    | [] => rfl
    | [y] => cases y <;> rfl
    | [y, z] => cases y <;> cases z <;> rfl
    | y :: z :: t :: r => cases y <;> cases z <;> rfl
  | _ => rfl
theorem inRng_fr (neg : Bool) (x : C) (ys : List C) (h : Hc) : inRng neg (shn h0 x) (shsn h0 ys) (fh h0 h) = (inRng neg x ys h).fr h0 (shn h0) := by
  cases x with
  | int i =>
    match ys with
    | [] => rfl
    | [y] => cases y <;> rfl
    | [y, z] => cases y <;> cases z <;> rfl
    | y :: z :: t :: r => cases y <;> cases z <;> rfl
  | _ => rfl
theorem bi_fr (b : Bi) (h : Hc) (xs : List C) : bi b (shsn h0 xs) (fh h0 h) = (bi b xs h).fr h0 (shn h0) := by
  cases xs with
  | nil => cases b <;> rfl
  | cons x xs =>
    cases xs with
    | nil =>
      cases b
      case len =>
        have e := seqOf_fr (h0 := h0) h x
        cases x
        case str z =>
          show (if z.length ≤ lineN then R.ok (C.int z.length) (fh h0 h) else .bad) = R.fr h0 (shn h0) (if z.length ≤ lineN then R.ok (C.int z.length) h else .bad)
          split <;> rfl
        case ref k =>
          show (match seqOf (fh h0 h) (shn h0 (.ref k)) with
            | some ys => R.ok (C.int ys.length) (fh h0 h)
            | none => .bad) = R.fr h0 (shn h0) (match seqOf h (.ref k) with
            | some ys => R.ok (C.int ys.length) h
            | none => .bad)
          rw [e]
          cases seqOf h (.ref k) with
          | none => rfl
          | some ys => show R.ok (C.int (shsn h0 ys).length) _ = _; rw [shs_len]; rfl
        case tup ys => show R.ok (C.int (shsn h0 ys).length) _ = R.ok (C.int ys.length) _; rw [shs_len]
        case frz ys => show R.ok (C.int (shsn h0 ys).length) _ = R.ok (C.int ys.length) _; rw [shs_len]
        all_goals rfl
      case abs => cases x <;> rfl
      case int => cases x <;> rfl
      case sorted => exact dsort_fr x h
      case repr =>
        show (match datum (fh h0 h) (shn h0 x) with
          | some d => if d.showable && SeqAt.shaped d && shortD d then R.ok (C.rep d) (fh h0 h) else .bad
          | none => .bad) = R.fr h0 (shn h0) (match datum h x with
          | some d => if d.showable && SeqAt.shaped d && shortD d then R.ok (C.rep d) h else .bad
          | none => .bad)
        rw [show datum (fh h0 h) (shn h0 x) = datum h x from toD_fr h 60 x]
        cases datum h x with
        | none => rfl
        | some d => dsimp only; split <;> rfl
      case tuple =>
        cases x
        case ref n =>
          show (match (fh h0 h)[h0.length + n]? with
            | some cs => R.ok (C.tup cs) (fh h0 h)
            | none => .bad) = R.fr h0 (shn h0) (match h[n]? with
            | some cs => R.ok (C.tup cs) h
            | none => .bad)
          rw [fh_get]
          cases h[n]? <;> rfl
        all_goals rfl
      case list =>
        show (match seqOf (fh h0 h) (shn h0 x) with
          | some cs => R.ok (C.ref (fh h0 h).length) (fh h0 h ++ [cs])
          | none => .bad) = R.fr h0 (shn h0) (match seqOf h x with
          | some cs => R.ok (C.ref h.length) (h ++ [cs])
          | none => .bad)
        rw [seqOf_fr]
        cases seqOf h x with
        | none => rfl
        | some cs => show R.ok (C.ref (fh h0 h).length) (fh h0 h ++ [shsn h0 cs]) = R.ok (C.ref (h0.length + h.length)) (fh h0 (h ++ [cs])); rw [fh_push, fh_len]
      case sum =>
        cases x
        case ref n =>
          show (match ((fh h0 h)[h0.length + n]?).bind intsC with
            | some ns => R.ok (C.int ns.sum) (fh h0 h)
            | none => .bad) = R.fr h0 (shn h0) (match (h[n]?).bind intsC with
            | some ns => R.ok (C.int ns.sum) h
            | none => .bad)
          rw [ints_fr]
          cases (h[n]?).bind intsC <;> rfl
        all_goals rfl
      case maxL =>
        cases x
        case ref n =>
          show (match ((fh h0 h)[h0.length + n]?).bind intsC with
            | some (x :: r) => R.ok (C.int (maxI x r)) (fh h0 h)
            | _ => .bad) = R.fr h0 (shn h0) (match (h[n]?).bind intsC with
            | some (x :: r) => R.ok (C.int (maxI x r)) h
            | _ => .bad)
          rw [ints_fr]
          cases (h[n]?).bind intsC with
          | none => rfl
          | some l => cases l <;> rfl
        all_goals rfl
      case minL =>
        cases x
        case ref n =>
          show (match ((fh h0 h)[h0.length + n]?).bind intsC with
            | some (x :: r) => R.ok (C.int (minI x r)) (fh h0 h)
            | _ => .bad) = R.fr h0 (shn h0) (match (h[n]?).bind intsC with
            | some (x :: r) => R.ok (C.int (minI x r)) h
            | _ => .bad)
          rw [ints_fr]
          cases (h[n]?).bind intsC with
          | none => rfl
          | some l => cases l <;> rfl
        all_goals rfl
      case all =>
        cases x
        case ref n =>
          show (match ((fh h0 h)[h0.length + n]?).bind boolsC with
            | some ns => R.ok (C.bl (ns.all id)) (fh h0 h)
            | none => .bad) = R.fr h0 (shn h0) (match (h[n]?).bind boolsC with
            | some ns => R.ok (C.bl (ns.all id)) h
            | none => .bad)
          rw [bools_fr]
          cases (h[n]?).bind boolsC <;> rfl
        all_goals rfl
      case any =>
        cases x
        case ref n =>
          show (match ((fh h0 h)[h0.length + n]?).bind boolsC with
            | some ns => R.ok (C.bl (ns.any id)) (fh h0 h)
            | none => .bad) = R.fr h0 (shn h0) (match (h[n]?).bind boolsC with
            | some ns => R.ok (C.bl (ns.any id)) h
            | none => .bad)
          rw [bools_fr]
          cases (h[n]?).bind boolsC <;> rfl
        all_goals rfl
      all_goals (cases x <;> rfl)
    | cons y ys =>
      cases ys with
      | nil =>
        cases b
        case divmod =>
          cases x <;> cases y
          case int.int i j =>
            show (if 0 < j ∧ j < 1000000000 then R.ok (C.tup [.int (i / j), .int (i % j)]) (fh h0 h) else .bad) = R.fr h0 (shn h0) (if 0 < j ∧ j < 1000000000 then R.ok (C.tup [.int (i / j), .int (i % j)]) h else .bad)
            split <;> rfl
          all_goals rfl
        all_goals (cases x <;> cases y <;> rfl)
      | cons z zs => cases b <;> cases x <;> cases y <;> rfl
def ItV.sh (n : Nat) : ItV → ItV
  | .lst k => .lst (n + k)
  | .tre cs => .tre (C.shs n cs)
  | .rng lo m => .rng lo m
  | .revl k j => .revl (n + k) j
  | .revt cs => .revt (C.shs n cs)
  | .enl k => .enl (n + k)
  | .ent cs => .ent (C.shs n cs)
  | .txt z => .txt z
theorem at_fr (it : ItV) (i : Nat) (h : Hc) : (it.sh h0.length).at_ i (fh h0 h) = (it.at_ i h).map (Option.map (shn h0)) := by
  cases it with
  | lst k =>
    show (match (fh h0 h)[h0.length + k]? with | some cs => some cs[i]? | none => none) = (match h[k]? with | some cs => some cs[i]? | none => none).map (Option.map (shn h0))
    rw [fh_get]
    cases h[k]? with
    | none => rfl
    | some cs => show some (shsn h0 cs)[i]? = some _; rw [shs_get]
  | tre cs => show some (shsn h0 cs)[i]? = some _; rw [shs_get]
  | rng lo n =>
    show (if i < n then some (some (C.int (lo + i))) else some none) = (if i < n then some (some (C.int (lo + i))) else some none).map (Option.map (shn h0))
    split <;> rfl
  | revl n k =>
    show (if i < k then (match (fh h0 h)[h0.length + n]? with
      | some cs => (match cs[k - 1 - i]? with
        | some c => some (some c)
        | none => none)
      | none => none) else some none) = (if i < k then (match h[n]? with
      | some cs => (match cs[k - 1 - i]? with
        | some c => some (some c)
        | none => none)
      | none => none) else some none).map (Option.map (shn h0))
    rw [fh_get]
    split
    · cases h[n]? with
      | none => rfl
      | some cs =>
        show (match (shsn h0 cs)[k - 1 - i]? with | some c => some (some c) | none => none) = (match cs[k - 1 - i]? with | some c => some (some c) | none => none).map (Option.map (shn h0))
        rw [shs_get]
        cases cs[k - 1 - i]? <;> rfl
    · rfl
  | revt cs =>
    show (if i < (shsn h0 cs).length then (match (shsn h0 cs)[(shsn h0 cs).length - 1 - i]? with
      | some c => some (some c)
      | none => none) else some none) = (if i < cs.length then (match cs[cs.length - 1 - i]? with
      | some c => some (some c)
      | none => none) else some none).map (Option.map (shn h0))
    rw [shs_len, shs_get]
    split
    · cases cs[cs.length - 1 - i]? <;> rfl
    · rfl
  | enl n =>
    show (match (fh h0 h)[h0.length + n]? with
      | some cs => some (match cs[i]? with
        | some c => some (C.tup [.int i, c])
        | none => none)
      | none => none) = (match h[n]? with
      | some cs => some (match cs[i]? with
        | some c => some (C.tup [.int i, c])
        | none => none)
      | none => none).map (Option.map (shn h0))
    rw [fh_get]
    cases h[n]? with
    | none => rfl
    | some cs =>
      show some (match (shsn h0 cs)[i]? with
        | some c => some (C.tup [.int i, c])
        | none => none) = some (Option.map (shn h0) (match cs[i]? with
        | some c => some (C.tup [.int i, c])
        | none => none))
      rw [shs_get]
      cases cs[i]? <;> rfl
  | ent cs =>
    show some (match (shsn h0 cs)[i]? with
      | some c => some (C.tup [.int i, c])
      | none => none) = some (Option.map (shn h0) (match cs[i]? with
      | some c => some (C.tup [.int i, c])
      | none => none))
    rw [shs_get]
    cases cs[i]? <;> rfl
  | txt z =>
    show some ((z.cps[i]?).map fun c => C.str ⟨#[c]⟩) = some (((z.cps[i]?).map fun c => C.str ⟨#[c]⟩).map (shn h0))
    cases z.cps[i]? <;> rfl
def slsh (h0 : Hc) (sl : Sl) : Sl := sl.map (Option.map (shn h0))
theorem sl_get (sl : Sl) (i : Nat) : (slsh h0 sl)[i]? = (sl[i]?).map (Option.map (shn h0)) := by unfold slsh; rw [List.getElem?_map]
theorem sl_set (sl : Sl) (i : Nat) (c : C) : (slsh h0 sl).set i (some (shn h0 c)) = slsh h0 (sl.set i (some c)) := by unfold slsh; rw [List.map_set]; rfl
theorem sl_setn (sl : Sl) (i : Nat) : (slsh h0 sl).set i none = slsh h0 (sl.set i none) := by unfold slsh; rw [List.map_set]; rfl
theorem wipe_fr (sl : Sl) : ∀ vs : List Nat, wipeC (slsh h0 sl) vs = slsh h0 (wipeC sl vs)
  | [] => rfl
  | v :: vs => by
    show (wipeC (slsh h0 sl) vs).set v none = slsh h0 ((wipeC sl vs).set v none)
    rw [wipe_fr sl vs, sl_setn]
theorem compF_fr {it : ItV} {g g' : C → Sl → Hc → R Sl} {t t' : Sl → Hc → R Bool} {e e' : Sl → Hc → R C} (hg : ∀ c sl h, g' (shn h0 c) (slsh h0 sl) (fh h0 h) = (g c sl h).fr h0 (slsh h0)) (ht : ∀ sl h, t' (slsh h0 sl) (fh h0 h) = (t sl h).fr h0 id) (he : ∀ sl h, e' (slsh h0 sl) (fh h0 h) = (e sl h).fr h0 (shn h0)) :
    ∀ (n i : Nat) (sl : Sl) (acc : List C) (h : Hc), compF (it.sh h0.length) g' t' e' n i (slsh h0 sl) (shsn h0 acc) (fh h0 h) = (compF it g t e n i sl acc h).fr h0 (shsn h0)
  | 0, _, _, _, _ => rfl
  | n + 1, i, sl, acc, h => by
    have ih := compF_fr (it := it) hg ht he n
    unfold compF
    rw [at_fr]
    cases it.at_ i h with
    | none => rfl
    | some o =>
      cases o with
      | none => rfl
      | some c =>
        refine bind_fr (hg c sl h) fun sl1 h1 => bind_fr (ht sl1 h1) fun k h2 => ?_
        cases k with
        | false => exact ih (i + 1) sl acc h2
        | true =>
          refine bind_fr (he sl1 h2) fun x h3 => ?_
          rw [shs_len]
          by_cases hl : acc.length < lineN
          · rw [if_pos hl, if_pos hl]
            have e2 : shsn h0 acc ++ [shn h0 x] = shsn h0 (acc ++ [x]) := (shs_app h0.length acc [x]).symm
            rw [e2]
            exact ih (i + 1) sl (acc ++ [x]) h3
          · rw [if_neg hl, if_neg hl]; rfl
end Sh
set_option Elab.async false
set_option linter.all false
set_option autoImplicit false
set_option maxRecDepth 100000
set_option maxHeartbeats 4000000
/-! Sh, part R: the frame of expressions, statements, calls. -/
namespace Sh
open PySem
mutual
def E.nr : E → Bool
  | .con c => c.nr
  | .var _ => true
  | .glob _ c => c.nr
  | .bin _ a b => a.nr && b.nr
  | .neg a => a.nr
  | .notv a => a.nr
  | .cmp _ a b => a.nr && b.nr
  | .chain _ _ a b c => a.nr && b.nr && c.nr
  | .andv a b => a.nr && b.nr
  | .orv a b => a.nr && b.nr
  | .ite t a b => t.nr && a.nr && b.nr
  | .tup es => es.nr
  | .lst es => es.nr
  | .idx a i => a.nr && i.nr
  | .slc a lo hi => a.nr && lo.nr && hi.nr
  | .call _ es => es.nr
  | .callk _ es ks _ => es.nr && ks.nr
  | .bi _ es => es.nr
  | .isi a _ => a.nr
  | .pop a => a.nr
  | .comp e p it t => e.nr && p.nr && it.nr && t.nr
  | .excf _ => true
  | .excis _ => true
  | .revs a => a.nr
  | .unk => true
  | .ind a _ _ _ => a.nr
  | .dnew => true
  | .dget a i => a.nr && i.nr
  | .inr a _ es => a.nr && es.nr
def T.nr : T → Bool
  | .yes => true
  | .inr a _ es => a.nr && es.nr
  | .tr a => a.nr
  | .chn _ _ a b c => a.nr && b.nr && c.nr
  | .cmp _ a b => a.nr && b.nr
  | .and a b => a.nr && b.nr
  | .or a b => a.nr && b.nr
  | .not a => a.nr
def Es.nr : Es → Bool
  | .nil => true
  | .cons e es => e.nr && es.nr
def Oe.nr : Oe → Bool
  | .none => true
  | .some e => e.nr
def It.nr : It → Bool
  | .seq a => a.nr
  | .rng1 a => a.nr
  | .rng2 a b => a.nr && b.nr
  | .rng3 a b c => a.nr && b.nr && c.nr
  | .enum a => a.nr
  | .zip a b => a.nr && b.nr
  | .rev a => a.nr
  | .revr a => a.nr
def Pt.nr : Pt → Bool
  | .v _ => true
  | .sub o i => o.nr && i.nr
  | .tup ps => ps.nr
def Pts.nr : Pts → Bool
  | .nil => true
  | .cons p ps => p.nr && ps.nr
end
mutual
def S.nr : S → Bool
  | .asg p e => p.nr && e.nr
  | .setc _ e => e.nr
  | .par _ _ a b => a.nr && b.nr
  | .aug _ _ e => e.nr
  | .augi o i _ e => o.nr && i.nr && e.nr
  | .ifs t a b => t.nr && a.nr && b.nr
  | .whl t b => t.nr && b.nr
  | .for_ p it b => p.nr && it.nr && b.nr
  | .ret e => e.nr
  | .retn => true
  | .expr e => e.nr
  | .app o e => o.nr && e.nr
  | .ext o e => o.nr && e.nr
  | .asg3 _ _ _ e => e.nr
  | .raise _ es => es.nr
  | .brk => true
  | .cnt => true
  | .pass => true
  | .try_ b hs => b.nr && hs.nr
def Ss.nr : Ss → Bool
  | .nil => true
  | .cons s ss => s.nr && ss.nr
  | .kput _ es d e ss => es.nr && d.nr && e.nr && ss.nr
def Hs.nr : Hs → Bool
  | .nil => true
  | .cons _ _ b hs => b.nr && hs.nr
end
theorem and2 {a b : Bool} (h : (a && b) = true) : a = true ∧ b = true := Bool.and_eq_true_iff.mp h
variable {h0 : Hc}
def cxsh (h0 : Hc) (cx : Option (Nat × List C)) : Option (Nat × List C) := cx.map fun p => (p.1, shsn h0 p.2)
theorem gK_shs (n : Nat) (a k : Nat) (perm : List Nat) (xs ys : List C) : gK a k perm (C.shs n xs) (C.shs n ys) = C.shs n (gK a k perm xs ys) := by
  unfold gK
  rw [shs_len, shs_len]
  split
  · rw [shs_app, shs_map n (perm.filterMap _), List.map_filterMap]
    congr 1
    refine congrArg (fun f => List.filterMap f perm) (funext fun i => ?_)
    rw [shs_get]
  · rfl
section
variable {call : Nat → List C → Hc → R C} {sub : Nat → Str → Option Bool} {w : Nat} {cx : Option (Nat × List C)} (hc : ∀ f xs h, call f (shsn h0 xs) (fh h0 h) = (call f xs h).fr h0 (shn h0))
include hc
mutual
theorem E_fr : ∀ (e : E), e.nr = true → ∀ (sl : Sl) (h : Hc), E.ev call sub w (cxsh h0 cx) e (slsh h0 sl) (fh h0 h) = (E.ev call sub w cx e sl h).fr h0 (shn h0)
  | .con c, n, sl, h => by show R.ok c _ = R.ok (C.sh _ c) _; rw [nr_sh _ c n]
  | .var i, n, sl, h => by
    unfold E.ev
    rw [sl_get]
    cases sl[i]? with
    | none => rfl
    | some o => cases o <;> rfl
  | .glob x c, n, sl, h => by show R.ok c _ = R.ok (C.sh _ c) _; rw [nr_sh _ c n]
  | .bin o a b, n, sl, h => by
    unfold E.ev
    exact bind_fr (E_fr a (and2 n).1 sl h) fun x h1 => bind_fr (E_fr b (and2 n).2 sl h1) fun y h2 => binop_fr o h2 x y
  | .neg a, n, sl, h => by
    unfold E.ev
    exact bind_fr (E_fr a n sl h) fun x h1 => by cases x <;> rfl
  | .notv a, n, sl, h => by
    unfold E.ev
    exact bind_fr (E_fr a n sl h) fun x h1 => by cases x <;> rfl
  | .cmp o a b, n, sl, h => by
    unfold E.ev
    exact bind_fr (E_fr a (and2 n).1 sl h) fun x h1 => bind_fr (E_fr b (and2 n).2 sl h1) fun y h2 => cmpop_fr o h2 x y
  | .chain o o' a b c, n, sl, h => by
    unfold E.ev
    refine bind_fr (E_fr a (and2 (and2 n).1).1 sl h) fun x h1 => bind_fr (E_fr b (and2 (and2 n).1).2 sl h1) fun y h2 => bind_fr (cmpop_fr o h2 x y) fun z h3 => ?_
    cases z
    case bl k =>
      cases k
      · rfl
      · exact bind_fr (E_fr c (and2 n).2 sl h3) fun u h4 => cmpop_fr o' h4 y u
    all_goals rfl
  | .andv a b, n, sl, h => by
    unfold E.ev
    refine bind_fr (E_fr a (and2 n).1 sl h) fun x h1 => ?_
    cases x
    case bl k =>
      cases k
      · rfl
      · exact E_fr b (and2 n).2 sl h1
    all_goals rfl
  | .orv a b, n, sl, h => by
    unfold E.ev
    refine bind_fr (E_fr a (and2 n).1 sl h) fun x h1 => ?_
    cases x
    case bl k =>
      cases k
      · exact E_fr b (and2 n).2 sl h1
      · rfl
    all_goals rfl
  | .ite t a b, n, sl, h => by
    unfold E.ev
    refine bind_fr (T_fr t (and2 (and2 n).1).1 sl h) fun k h1 => ?_
    cases k
    · exact E_fr b (and2 n).2 sl h1
    · exact E_fr a (and2 (and2 n).1).2 sl h1
  | .tup es, n, sl, h => by
    unfold E.ev
    refine bind_fr (Es_fr es n sl h) fun xs h1 => ?_
    show (if (C.shs h0.length xs).length ≤ lineN then R.ok (C.tup (C.shs h0.length xs)) (fh h0 h1) else .bad) = R.fr h0 (shn h0) (if xs.length ≤ lineN then R.ok (C.tup xs) h1 else .bad)
    rw [shs_len]
    split <;> rfl
  | .lst es, n, sl, h => by
    unfold E.ev
    refine bind_fr (Es_fr es n sl h) fun xs h1 => ?_
    show (if (C.shs h0.length xs).length ≤ lineN then R.ok (C.ref (fh h0 h1).length) (fh h0 h1 ++ [C.shs h0.length xs]) else .bad) = R.fr h0 (shn h0) (if xs.length ≤ lineN then R.ok (C.ref h1.length) (h1 ++ [xs]) else .bad)
    rw [shs_len, fh_push, fh_len]
    split <;> rfl
  | .idx a i, n, sl, h => by
    unfold E.ev
    exact bind_fr (E_fr a (and2 n).1 sl h) fun x h1 => bind_fr (E_fr i (and2 n).2 sl h1) fun y h2 => item_fr h2 x y
  | .slc a lo hi, n, sl, h => by
    unfold E.ev
    exact bind_fr (E_fr a (and2 (and2 n).1).1 sl h) fun x h1 => bind_fr (O_fr lo (and2 (and2 n).1).2 sl h1) fun l h2 => bind_fr (O_fr hi (and2 n).2 sl h2) fun u h3 => slice_fr h3 x l u
  | .call f es, n, sl, h => by
    unfold E.ev
    exact bind_fr (Es_fr es n sl h) fun xs h1 => hc f xs h1
  | .callk f es ks perm, n, sl, h => by
    unfold E.ev
    refine bind_fr (Es_fr es (and2 n).1 sl h) fun xs h1 => bind_fr (Es_fr ks (and2 n).2 sl h1) fun ys h2 => ?_
    rw [gK_shs]
    exact hc f _ h2
  | .bi b es, n, sl, h => by
    unfold E.ev
    exact bind_fr (Es_fr es n sl h) fun xs h1 => bi_fr b h1 xs
  | .isi a t, n, sl, h => by
    unfold E.ev
    refine bind_fr (E_fr a n sl h) fun x h1 => ?_
    rw [isiC_fr]; rfl
  | .pop a, n, sl, h => by
    unfold E.ev
    refine bind_fr (E_fr a n sl h) fun x h1 => ?_
    cases x
    case ref k =>
      show (match (fh h0 h1)[h0.length + k]? with
        | some xs => match xs[xs.length - 1]? with
          | some c => R.ok c ((fh h0 h1).set (h0.length + k) xs.dropLast)
          | none => .bad
        | none => .bad) = R.fr h0 (shn h0) (match h1[k]? with
        | some xs => match xs[xs.length - 1]? with
          | some c => R.ok c (h1.set k xs.dropLast)
          | none => .bad
        | none => .bad)
      rw [fh_get]
      cases h1[k]? with
      | none => rfl
      | some xs =>
        show (match (shsn h0 xs)[(shsn h0 xs).length - 1]? with
          | some c => R.ok c ((fh h0 h1).set (h0.length + k) (shsn h0 xs).dropLast)
          | none => .bad) = R.fr h0 (shn h0) (match xs[xs.length - 1]? with
          | some c => R.ok c (h1.set k xs.dropLast)
          | none => .bad)
        rw [shs_len, shs_get, ← shs_droplast, fh_set]
        cases xs[xs.length - 1]? <;> rfl
    all_goals rfl
  | .comp e p it t, n, sl, h => by
    unfold E.ev
    refine bind_fr (It_fr it (and2 (and2 n).1).2 sl h) fun v h1 => ?_
    refine bind_fr (g := shsn h0) ?_ fun xs h2 => ?_
    · have ec := compF_fr (it := v) (g := fun c sl h => Pt.put call sub w cx p c sl h) (g' := fun c sl h => Pt.put call sub w (cxsh h0 cx) p c sl h) (t := fun sl h => T.ev call sub w cx t sl h) (t' := fun sl h => T.ev call sub w (cxsh h0 cx) t sl h) (e := fun sl h => E.ev call sub w cx e sl h) (e' := fun sl h => E.ev call sub w (cxsh h0 cx) e sl h)
        (fun c sl h => P_fr p (and2 (and2 (and2 n).1).1).2 c sl h) (fun sl h => T_fr t (and2 n).2 sl h) (fun sl h => E_fr e (and2 (and2 (and2 n).1).1).1 sl h) w 0 (p.wipe sl) [] h1
      unfold Pt.wipe at ec ⊢
      rw [wipe_fr]
      rw [show ([] : List C) = shsn h0 [] from rfl, ec]
      exact noerr_fr _
    · show R.ok (C.ref (fh h0 h2).length) (fh h0 h2 ++ [shsn h0 xs]) = R.ok (C.ref (h0.length + h2.length)) (fh h0 (h2 ++ [xs]))
      rw [fh_push, fh_len]
  | .excf j, n, sl, h => by
    unfold E.ev
    cases cx with
    | none => rfl
    | some p =>
      show (match (shsn h0 p.2)[j]? with
        | some c => R.ok c (fh h0 h)
        | none => .bad) = R.fr h0 (shn h0) (match p.2[j]? with
        | some c => R.ok c h
        | none => .bad)
      rw [shs_get]
      cases p.2[j]? <;> rfl
  | .excis x, n, sl, h => by
    unfold E.ev
    cases cx with
    | none => rfl
    | some p =>
      show (match sub p.1 x with
        | some b => R.ok (C.bl b) (fh h0 h)
        | none => .bad) = R.fr h0 (shn h0) (match sub p.1 x with
        | some b => R.ok (C.bl b) h
        | none => .bad)
      cases sub p.1 x <;> rfl
  | .revs a, n, sl, h => by
    unfold E.ev
    refine bind_fr (E_fr a n sl h) fun x h1 => ?_
    cases x
    case ref k =>
      show (match (fh h0 h1)[h0.length + k]? with
        | some cs => R.ok (C.ref (fh h0 h1).length) (fh h0 h1 ++ [cs.reverse])
        | none => .bad) = R.fr h0 (shn h0) (match h1[k]? with
        | some cs => R.ok (C.ref h1.length) (h1 ++ [cs.reverse])
        | none => .bad)
      rw [fh_get]
      cases h1[k]? with
      | none => rfl
      | some cs =>
        show R.ok (C.ref (fh h0 h1).length) (fh h0 h1 ++ [(shsn h0 cs).reverse]) = R.ok (C.ref (h0.length + h1.length)) (fh h0 (h1 ++ [cs.reverse]))
        rw [← shs_rev, fh_push, fh_len]
    case frz cs =>
      show R.ok (C.ref (fh h0 h1).length) (fh h0 h1 ++ [(shsn h0 cs).reverse]) = R.ok (C.ref (h0.length + h1.length)) (fh h0 (h1 ++ [cs.reverse]))
      rw [← shs_rev, fh_push, fh_len]
    all_goals rfl
  | .unk, n, sl, h => by unfold E.ev; rfl
  | .dnew, n, sl, h => by
    unfold E.ev
    show R.ok (C.dref (fh h0 h).length) (fh h0 h ++ [shsn h0 [.bl true]]) = R.ok (C.dref (h0.length + h.length)) (fh h0 (h ++ [[.bl true]]))
    rw [fh_push, fh_len]
  | .dget a i, n, sl, h => by
    unfold E.ev
    exact bind_fr (E_fr a (and2 n).1 sl h) fun x h1 => bind_fr (E_fr i (and2 n).2 sl h1) fun y h2 => dget_fr x y h2
  | .inr a neg es, n, sl, h => by
    unfold E.ev
    exact bind_fr (E_fr a (and2 n).1 sl h) fun x h1 => bind_fr (Es_fr es (and2 n).2 sl h1) fun ys h2 => inRng_fr neg x ys h2
  | .ind a neg x ks, n, sl, h => by
    unfold E.ev
    exact bind_fr (E_fr a n sl h) fun x h1 => by cases x <;> rfl
theorem T_fr : ∀ (t : T), t.nr = true → ∀ (sl : Sl) (h : Hc), T.ev call sub w (cxsh h0 cx) t (slsh h0 sl) (fh h0 h) = (T.ev call sub w cx t sl h).fr h0 id
  | .yes, n, sl, h => by unfold T.ev; rfl
  | .inr a neg es, n, sl, h => by
    unfold T.ev
    exact bind_fr (E_fr a (and2 n).1 sl h) fun x h1 => bind_fr (Es_fr es (and2 n).2 sl h1) fun ys h2 => inRngB_fr neg x ys h2
  | .tr a, n, sl, h => by
    unfold T.ev
    exact bind_fr (E_fr a n sl h) fun x h1 => truth_fr h1 x
  | .cmp o a b, n, sl, h => by
    unfold T.ev
    exact bind_fr (E_fr a (and2 n).1 sl h) fun x h1 => bind_fr (E_fr b (and2 n).2 sl h1) fun y h2 => bind_fr (cmpop_fr o h2 x y) fun z h3 => by cases z <;> rfl
  | .chn o o' a b c, n, sl, h => by
    unfold T.ev
    refine bind_fr (E_fr a (and2 (and2 n).1).1 sl h) fun x h1 => bind_fr (E_fr b (and2 (and2 n).1).2 sl h1) fun y h2 => bind_fr (cmpop_fr o h2 x y) fun z h3 => ?_
    cases z
    case bl k =>
      cases k
      · rfl
      · exact bind_fr (E_fr c (and2 n).2 sl h3) fun u h4 => bind_fr (cmpop_fr o' h4 y u) fun z h5 => by cases z <;> rfl
    all_goals rfl
  | .and a b, n, sl, h => by
    unfold T.ev
    refine bind_fr (T_fr a (and2 n).1 sl h) fun k h1 => ?_
    cases k
    · rfl
    · exact T_fr b (and2 n).2 sl h1
  | .or a b, n, sl, h => by
    unfold T.ev
    refine bind_fr (T_fr a (and2 n).1 sl h) fun k h1 => ?_
    cases k
    · exact T_fr b (and2 n).2 sl h1
    · rfl
  | .not a, n, sl, h => by
    unfold T.ev
    exact bind_fr (T_fr a n sl h) fun k h1 => rfl
theorem Es_fr : ∀ (es : Es), es.nr = true → ∀ (sl : Sl) (h : Hc), Es.ev call sub w (cxsh h0 cx) es (slsh h0 sl) (fh h0 h) = (Es.ev call sub w cx es sl h).fr h0 (shsn h0)
  | .nil, n, sl, h => by unfold Es.ev; rfl
  | .cons e es, n, sl, h => by
    unfold Es.ev
    exact bind_fr (E_fr e (and2 n).1 sl h) fun x h1 => bind_fr (Es_fr es (and2 n).2 sl h1) fun xs h2 => rfl
theorem O_fr : ∀ (o : Oe), o.nr = true → ∀ (sl : Sl) (h : Hc), Oe.ev call sub w (cxsh h0 cx) o (slsh h0 sl) (fh h0 h) = (Oe.ev call sub w cx o sl h).fr h0 id
  | .none, n, sl, h => by unfold Oe.ev; rfl
  | .some e, n, sl, h => by
    unfold Oe.ev
    exact bind_fr (E_fr e n sl h) fun x h1 => by cases x <;> rfl
theorem It_fr : ∀ (it : It), it.nr = true → ∀ (sl : Sl) (h : Hc), It.ev call sub w (cxsh h0 cx) it (slsh h0 sl) (fh h0 h) = (It.ev call sub w cx it sl h).fr h0 (ItV.sh h0.length)
  | .seq a, n, sl, h => by
    unfold It.ev
    exact bind_fr (E_fr a n sl h) fun x h1 => by cases x <;> rfl
  | .rng1 a, n, sl, h => by
    unfold It.ev
    refine bind_fr (E_fr a n sl h) fun x h1 => ?_
    cases x
    case int j =>
      show (if -1000000000 < j ∧ j < 1000000000 then R.ok (ItV.rng 0 j.toNat) (fh h0 h1) else .bad) = R.fr h0 (ItV.sh h0.length) (if -1000000000 < j ∧ j < 1000000000 then R.ok (ItV.rng 0 j.toNat) h1 else .bad)
      split <;> rfl
    all_goals rfl
  | .rng2 a b, n, sl, h => by
    unfold It.ev
    refine bind_fr (E_fr a (and2 n).1 sl h) fun x h1 => bind_fr (E_fr b (and2 n).2 sl h1) fun y h2 => ?_
    cases x <;> cases y
    case int.int i j =>
      show (if -1000000 < i ∧ i < 1000000 ∧ -1000000 < j ∧ j < 1000000 then R.ok (ItV.rng i (j - i).toNat) (fh h0 h2) else .bad) = R.fr h0 (ItV.sh h0.length) (if -1000000 < i ∧ i < 1000000 ∧ -1000000 < j ∧ j < 1000000 then R.ok (ItV.rng i (j - i).toNat) h2 else .bad)
      split <;> rfl
    all_goals rfl
  | .rng3 a b c, n, sl, h => by unfold It.ev; rfl
  | .enum a, n, sl, h => by
    unfold It.ev
    exact bind_fr (E_fr a n sl h) fun x h1 => by cases x <;> rfl
  | .zip a b, n, sl, h => by unfold It.ev; rfl
  | .rev a, n, sl, h => by
    unfold It.ev
    refine bind_fr (E_fr a n sl h) fun x h1 => ?_
    cases x
    case ref k =>
      show (match (fh h0 h1)[h0.length + k]? with
        | some cs => R.ok (ItV.revl (h0.length + k) cs.length) (fh h0 h1)
        | none => .bad) = R.fr h0 (ItV.sh h0.length) (match h1[k]? with
        | some cs => R.ok (ItV.revl k cs.length) h1
        | none => .bad)
      rw [fh_get]
      cases h1[k]? with
      | none => rfl
      | some cs => show R.ok (ItV.revl (h0.length + k) (shsn h0 cs).length) (fh h0 h1) = _; rw [shs_len]; rfl
    all_goals rfl
  | .revr a, n, sl, h => by unfold It.ev; rfl
theorem P_fr : ∀ (p : Pt), p.nr = true → ∀ (c : C) (sl : Sl) (h : Hc), Pt.put call sub w (cxsh h0 cx) p (shn h0 c) (slsh h0 sl) (fh h0 h) = (Pt.put call sub w cx p c sl h).fr h0 (slsh h0)
  | .v i, n, c, sl, h => by
    unfold Pt.put
    rw [sl_set]; rfl
  | .sub o i, n, c, sl, h => by
    unfold Pt.put
    refine bind_fr (g := shn h0) ?_ fun x h1 => bind_fr (g := shn h0) ?_ fun y h2 => bind_fr (setitem_fr h2 x y c) fun _ h3 => rfl
    · rw [E_fr o (and2 n).1 sl h, noerr_fr]
    · rw [E_fr i (and2 n).2 sl h1, noerr_fr]
  | .tup ps, n, c, sl, h => by
    unfold Pt.put
    cases c
    case tup cs =>
      show (if (shsn h0 cs).length = ps.len then Pts.put call sub w (cxsh h0 cx) ps (shsn h0 cs) (slsh h0 sl) (fh h0 h) else .bad) = R.fr h0 (slsh h0) (if cs.length = ps.len then Pts.put call sub w cx ps cs sl h else .bad)
      rw [shs_len]
      by_cases l : cs.length = ps.len
      · rw [if_pos l, if_pos l]
        exact Ps_fr ps n cs sl h
      · rw [if_neg l, if_neg l]; rfl
    all_goals rfl
theorem Ps_fr : ∀ (ps : Pts), ps.nr = true → ∀ (cs : List C) (sl : Sl) (h : Hc), Pts.put call sub w (cxsh h0 cx) ps (shsn h0 cs) (slsh h0 sl) (fh h0 h) = (Pts.put call sub w cx ps cs sl h).fr h0 (slsh h0)
  | .nil, n, cs, sl, h => by
    unfold Pts.put
    cases cs <;> rfl
  | .cons p ps, n, cs, sl, h => by
    unfold Pts.put
    cases cs with
    | nil => rfl
    | cons c cs => exact bind_fr (P_fr p (and2 n).1 c sl h) fun sl1 h1 => Ps_fr ps (and2 n).2 cs sl1 h1
end
end
def RS'.fr (h0 : Hc) : RS' → RS'
  | .nx sl h => .nx (slsh h0 sl) (fh h0 h)
  | .ret c h => .ret (shn h0 c) (fh h0 h)
  | .bk sl h => .bk (slsh h0 sl) (fh h0 h)
  | .ct sl h => .ct (slsh h0 sl) (fh h0 h)
  | .err k xs sl h => .err k (shsn h0 xs) (slsh h0 sl) (fh h0 h)
  | .bad => .bad
theorem th_fr {α α' : Type} {g : α → α'} {r : R α} {r' : R α'} {sl : Sl} {f : α → Hc → RS'} {f' : α' → Hc → RS'} (e : r' = r.fr h0 g) (ef : ∀ a h, f' (g a) (fh h0 h) = (f a h).fr h0) : r'.th (slsh h0 sl) f' = (r.th sl f).fr h0 := by
  subst e
  cases r with
  | ok a h => exact ef a h
  | err k xs h => rfl
  | bad => rfl
theorem thn_fr {r r' : RS'} {f f' : Sl → Hc → RS'} (e : r' = r.fr h0) (ef : ∀ sl h, f' (slsh h0 sl) (fh h0 h) = (f sl h).fr h0) : r'.th f' = (r.th f).fr h0 := by
  subst e
  cases r with
  | nx sl h => exact ef sl h
  | _ => rfl
theorem whileF_fr {t t' : Sl → Hc → R Bool} {b b' : Sl → Hc → RS'} (ht : ∀ sl h, t' (slsh h0 sl) (fh h0 h) = (t sl h).fr h0 id) (hb : ∀ sl h, b' (slsh h0 sl) (fh h0 h) = (b sl h).fr h0) : ∀ (n : Nat) (sl : Sl) (h : Hc), whileF t' b' n (slsh h0 sl) (fh h0 h) = (whileF t b n sl h).fr h0
  | 0, _, _ => rfl
  | n + 1, sl, h => by
    have ih := whileF_fr ht hb n
    unfold whileF
    refine th_fr (ht sl h) fun k h1 => ?_
    cases k
    · rfl
    · show (match b' (slsh h0 sl) (fh h0 h1) with
        | .nx sl2 h2 => whileF t' b' n sl2 h2
        | .ct sl2 h2 => whileF t' b' n sl2 h2
        | .bk sl2 h2 => .nx sl2 h2
        | r => r) = RS'.fr h0 (match b sl h1 with
        | .nx sl2 h2 => whileF t b n sl2 h2
        | .ct sl2 h2 => whileF t b n sl2 h2
        | .bk sl2 h2 => .nx sl2 h2
        | r => r)
      rw [hb]
      cases b sl h1 with
      | nx sl2 h2 => exact ih sl2 h2
      | ct sl2 h2 => exact ih sl2 h2
      | _ => rfl
theorem forF_fr {it : ItV} {g g' : C → Sl → Hc → R Sl} {b b' : Sl → Hc → RS'} (hg : ∀ c sl h, g' (shn h0 c) (slsh h0 sl) (fh h0 h) = (g c sl h).fr h0 (slsh h0)) (hb : ∀ sl h, b' (slsh h0 sl) (fh h0 h) = (b sl h).fr h0) : ∀ (n i : Nat) (sl : Sl) (h : Hc), forF (it.sh h0.length) g' b' n i (slsh h0 sl) (fh h0 h) = (forF it g b n i sl h).fr h0
  | 0, _, _, _ => rfl
  | n + 1, i, sl, h => by
    have ih := forF_fr (it := it) hg hb n
    unfold forF
    rw [at_fr]
    cases it.at_ i h with
    | none => rfl
    | some o =>
      cases o with
      | none => rfl
      | some c =>
        refine th_fr (r := (g c sl h).noerr) (g := slsh h0) ?_ fun sl1 h1 => ?_
        · show (g' (shn h0 c) (slsh h0 sl) (fh h0 h)).noerr = _
          rw [hg, noerr_fr]
        · show (match b' (slsh h0 sl1) (fh h0 h1) with
            | .nx sl2 h2 => forF (it.sh h0.length) g' b' n (i + 1) sl2 h2
            | .ct sl2 h2 => forF (it.sh h0.length) g' b' n (i + 1) sl2 h2
            | .bk sl2 h2 => .nx sl2 h2
            | r => r) = RS'.fr h0 (match b sl1 h1 with
            | .nx sl2 h2 => forF it g b n (i + 1) sl2 h2
            | .ct sl2 h2 => forF it g b n (i + 1) sl2 h2
            | .bk sl2 h2 => .nx sl2 h2
            | r => r)
          rw [hb]
          cases b sl1 h1 with
          | nx sl2 h2 => exact ih (i + 1) sl2 h2
          | ct sl2 h2 => exact ih (i + 1) sl2 h2
          | _ => rfl
section
variable {call : Nat → List C → Hc → R C} {sub : Nat → Str → Option Bool} {w : Nat} (hc : ∀ f xs h, call f (shsn h0 xs) (fh h0 h) = (call f xs h).fr h0 (shn h0))
include hc
mutual
theorem S_fr : ∀ (s : S), s.nr = true → ∀ (cx : Option (Nat × List C)) (sl : Sl) (h : Hc), S.ev call sub w s (cxsh h0 cx) (slsh h0 sl) (fh h0 h) = (S.ev call sub w s cx sl h).fr h0
  | .asg p e, n, cx, sl, h => by
    unfold S.ev
    refine th_fr (E_fr hc e (and2 n).2 sl h) fun c h1 => th_fr (g := slsh h0) ?_ fun sl1 h2 => rfl
    rw [P_fr hc p (and2 n).1 c sl h1, noerr_fr]
  | .setc i e, n, cx, sl, h => by
    unfold S.ev
    refine th_fr (E_fr hc e n sl h) fun c h1 => ?_
    rw [sl_set]; rfl
  | .par i j a b, n, cx, sl, h => by
    unfold S.ev
    refine th_fr (E_fr hc a (and2 n).1 sl h) fun x h1 => th_fr (E_fr hc b (and2 n).2 sl h1) fun y h2 => ?_
    rw [sl_set, sl_set]; rfl
  | .aug i o e, n, cx, sl, h => by
    unfold S.ev
    rw [sl_get]
    cases sl[i]? with
    | none => rfl
    | some x =>
      cases x with
      | none => rfl
      | some x =>
        refine th_fr (E_fr hc e n sl h) fun y h1 => ?_
        cases x <;> cases y
        case int.int a b =>
          refine th_fr (augC_fr o h1 a b) fun z h2 => ?_
          rw [sl_set]; rfl
        all_goals rfl
  | .augi o i op e, n, cx, sl, h => by
    unfold S.ev
    refine th_fr (E_fr hc o (and2 (and2 n).1).1 sl h) fun x h1 => th_fr (E_fr hc i (and2 (and2 n).1).2 sl h1) fun y h2 => ?_
    cases x
    case ref k =>
      refine th_fr (item_fr h2 (.ref k) y) fun old h3 => th_fr (E_fr hc e (and2 n).2 sl h3) fun v h4 => ?_
      cases old <;> cases v
      case int.int a b =>
        refine th_fr (augC_fr op h4 a b) fun new h5 => th_fr (setitem_fr h5 (.ref k) y new) fun _ h6 => rfl
      all_goals rfl
    all_goals rfl
  | .ifs t a b, n, cx, sl, h => by
    unfold S.ev
    refine th_fr (T_fr hc t (and2 (and2 n).1).1 sl h) fun k h1 => ?_
    cases k
    · exact Ss_fr b (and2 n).2 cx sl h1
    · exact Ss_fr a (and2 (and2 n).1).2 cx sl h1
  | .whl t b, n, cx, sl, h => by
    unfold S.ev
    exact whileF_fr (fun sl h => T_fr hc t (and2 n).1 sl h) (fun sl h => Ss_fr b (and2 n).2 cx sl h) w sl h
  | .for_ p it b, n, cx, sl, h => by
    unfold S.ev
    exact th_fr (It_fr hc it (and2 (and2 n).1).2 sl h) fun v h1 => forF_fr (fun c sl h => P_fr hc p (and2 (and2 n).1).1 c sl h) (fun sl h => Ss_fr b (and2 n).2 cx sl h) w 0 sl h1
  | .ret e, n, cx, sl, h => by
    unfold S.ev
    exact th_fr (E_fr hc e n sl h) fun c h1 => rfl
  | .retn, n, cx, sl, h => by unfold S.ev; rfl
  | .expr e, n, cx, sl, h => by
    unfold S.ev
    exact th_fr (E_fr hc e n sl h) fun c h1 => rfl
  | .app o e, n, cx, sl, h => by
    unfold S.ev
    refine th_fr (E_fr hc o (and2 n).1 sl h) fun x h1 => ?_
    cases x
    case ref k =>
      refine th_fr (E_fr hc e (and2 n).2 sl h1) fun y h2 => ?_
      show (match (fh h0 h2)[h0.length + k]? with
        | some xs => if xs.length < lineN then RS'.nx (slsh h0 sl) ((fh h0 h2).set (h0.length + k) (xs ++ [shn h0 y])) else .bad
        | none => .bad) = RS'.fr h0 (match h2[k]? with
        | some xs => if xs.length < lineN then RS'.nx sl (h2.set k (xs ++ [y])) else .bad
        | none => .bad)
      rw [fh_get]
      cases h2[k]? with
      | none => rfl
      | some xs =>
        show (if (shsn h0 xs).length < lineN then RS'.nx (slsh h0 sl) ((fh h0 h2).set (h0.length + k) (shsn h0 xs ++ [shn h0 y])) else .bad) = RS'.fr h0 (if xs.length < lineN then RS'.nx sl (h2.set k (xs ++ [y])) else .bad)
        rw [shs_len, show shsn h0 xs ++ [shn h0 y] = shsn h0 (xs ++ [y]) from (shs_app h0.length xs [y]).symm, fh_set]
        split <;> rfl
    all_goals rfl
  | .asg3 i j k e, n, cx, sl, h => by
    unfold S.ev
    refine th_fr (E_fr hc e n sl h) fun c h1 => ?_
    rw [sl_set, sl_set, sl_set]; rfl
  | .ext o e, n, cx, sl, h => by
    unfold S.ev
    refine th_fr (E_fr hc o (and2 n).1 sl h) fun x h1 => ?_
    cases x
    case ref k =>
      refine th_fr (E_fr hc e (and2 n).2 sl h1) fun y h2 => ?_
      cases y
      case ref m =>
        show (match (fh h0 h2)[h0.length + k]?, (fh h0 h2)[h0.length + m]? with
          | some xs, some ys => if xs.length + ys.length ≤ lineN then RS'.nx (slsh h0 sl) ((fh h0 h2).set (h0.length + k) (xs ++ ys)) else .bad
          | _, _ => .bad) = RS'.fr h0 (match h2[k]?, h2[m]? with
          | some xs, some ys => if xs.length + ys.length ≤ lineN then RS'.nx sl (h2.set k (xs ++ ys)) else .bad
          | _, _ => .bad)
        rw [fh_get, fh_get]
        cases h2[k]? with
        | none => rfl
        | some xs =>
          cases h2[m]? with
          | none => rfl
          | some ys =>
            show (if (shsn h0 xs).length + (shsn h0 ys).length ≤ lineN then RS'.nx (slsh h0 sl) ((fh h0 h2).set (h0.length + k) (shsn h0 xs ++ shsn h0 ys)) else .bad) = RS'.fr h0 (if xs.length + ys.length ≤ lineN then RS'.nx sl (h2.set k (xs ++ ys)) else .bad)
            rw [shs_len, shs_len, show shsn h0 xs ++ shsn h0 ys = shsn h0 (xs ++ ys) from (shs_app h0.length xs ys).symm, fh_set]
            split <;> rfl
      all_goals rfl
    all_goals rfl
  | .raise k es, n, cx, sl, h => by
    unfold S.ev
    exact th_fr (Es_fr hc es n sl h) fun xs h1 => rfl
  | .brk, n, cx, sl, h => by unfold S.ev; rfl
  | .cnt, n, cx, sl, h => by unfold S.ev; rfl
  | .pass, n, cx, sl, h => by unfold S.ev; rfl
  | .try_ b hs, n, cx, sl, h => by
    unfold S.ev
    cases cx with
    | some p => rfl
    | none =>
      show (match Ss.ev call sub w b none (slsh h0 sl) (fh h0 h) with
        | .err k xs sl1 h1 => Hs.ev call sub w hs k xs sl1 h1
        | r => r) = RS'.fr h0 (match Ss.ev call sub w b none sl h with
        | .err k xs sl1 h1 => Hs.ev call sub w hs k xs sl1 h1
        | r => r)
      rw [show Ss.ev call sub w b none (slsh h0 sl) (fh h0 h) = _ from Ss_fr b (and2 n).1 none sl h]
      cases Ss.ev call sub w b none sl h with
      | err k xs sl1 h1 => exact Hs_fr hs (and2 n).2 k xs sl1 h1
      | _ => rfl
theorem Ss_fr : ∀ (ss : Ss), ss.nr = true → ∀ (cx : Option (Nat × List C)) (sl : Sl) (h : Hc), Ss.ev call sub w ss (cxsh h0 cx) (slsh h0 sl) (fh h0 h) = (Ss.ev call sub w ss cx sl h).fr h0
  | .nil, n, cx, sl, h => by unfold Ss.ev; rfl
  | .cons s ss, n, cx, sl, h => by
    unfold Ss.ev
    exact thn_fr (S_fr s (and2 n).1 cx sl h) fun sl1 h1 => Ss_fr ss (and2 n).2 cx sl1 h1
  | .kput i es d e ss, n, cx, sl, h => by
    unfold Ss.ev
    refine th_fr (Es_fr hc es (and2 (and2 (and2 n).1).1).1 sl h) fun ks h1 => ?_
    have hl : (slsh h0 sl).length = sl.length := by simp [slsh]
    have hs : (slsh h0 sl).set i (some (.tup (shsn h0 ks))) = slsh h0 (sl.set i (some (.tup ks))) := sl_set sl i (.tup ks)
    rw [shs_len, hl]
    split
    · rw [hs]
      exact th_fr (E_fr hc e (and2 (and2 n).1).2 _ h1) fun c h2 => th_fr (E_fr hc d (and2 (and2 (and2 n).1).1).2 _ h2) fun x h3 => th_fr (dput_fr x ks c h3) fun _ h4 => Ss_fr ss (and2 n).2 cx _ h4
    · rfl
theorem Hs_fr : ∀ (hs : Hs), hs.nr = true → ∀ (k : Nat) (xs : List C) (sl : Sl) (h : Hc), Hs.ev call sub w hs k (shsn h0 xs) (slsh h0 sl) (fh h0 h) = (Hs.ev call sub w hs k xs sl h).fr h0
  | .nil, n, k, xs, sl, h => by unfold Hs.ev; rfl
  | .cons ks i b hs, n, k, xs, sl, h => by
    unfold Hs.ev
    by_cases z : ks.contains k = true
    · rw [if_pos z, if_pos z, sl_setn]
      have e := Ss_fr b (and2 n).1 (some (k, xs)) (sl.set i none) h
      show (match Ss.ev call sub w b (cxsh h0 (some (k, xs))) (slsh h0 (sl.set i none)) (fh h0 h) with
        | .nx sl2 h2 => RS'.nx (sl2.set i none) h2
        | .ret c h2 => .ret c h2
        | .bk sl2 h2 => .bk (sl2.set i none) h2
        | .ct sl2 h2 => .ct (sl2.set i none) h2
        | _ => .bad) = _
      rw [e]
      cases Ss.ev call sub w b (some (k, xs)) (sl.set i none) h with
      | nx sl2 h2 => show RS'.nx ((slsh h0 sl2).set i none) _ = _; rw [sl_setn]; rfl
      | bk sl2 h2 => show RS'.bk ((slsh h0 sl2).set i none) _ = _; rw [sl_setn]; rfl
      | ct sl2 h2 => show RS'.ct ((slsh h0 sl2).set i none) _ = _; rw [sl_setn]; rfl
      | _ => rfl
    · rw [if_neg z, if_neg z]
      exact Hs_fr hs (and2 n).2 k xs sl h
end
end
theorem all_fr (cl : ClH h0) (h : Hc) (k : Nat) : ((fh h0 h).take (h0.length + k)).all (C.unders (h0.length + k)) = (h.take k).all (C.unders k) := by
  rw [fh_take]
  unfold fh
  rw [List.all_append, List.all_map]
  have a1 : h0.all (C.unders (h0.length + k)) = true := List.all_eq_true.mpr fun l hl => unders_le (by omega) l (List.all_eq_true.mp cl l hl)
  rw [a1, Bool.true_and]
  refine congrArg (fun f => List.all (h.take k) f) (funext fun l => ?_)
  exact unders_shs h0.length k l
theorem tidy_fr (cl : ClH h0) (n : Nat) (c : C) (h : Hc) : tidy (h0.length + n) (shn h0 c) (fh h0 h) = (tidy n c h).fr h0 (shn h0) := by
  unfold tidy
  rw [all_fr cl, under_sh, fh_take]
  split <;> rfl
theorem tidyX_fr (cl : ClH h0) (n k : Nat) (xs : List C) (h : Hc) : tidyX (h0.length + n) k (shsn h0 xs) (fh h0 h) = (tidyX n k xs h).fr h0 (shn h0) := by
  unfold tidyX
  rw [all_fr cl, unders_shs, fh_take]
  split <;> rfl
/-- the frame -/
theorem run_fr {fns : Nat → Option Fn} {sub : Nat → Str → Option Bool} {w : Nat} (hn : ∀ f fn, fns f = some fn → fn.body.nr = true) (cl : ClH h0) : ∀ (d f : Nat) (xs : List C) (h : Hc), run fns sub w d f (shsn h0 xs) (fh h0 h) = (run fns sub w d f xs h).fr h0 (shn h0)
  | 0, _, _, _ => rfl
  | d + 1, f, xs, h => by
    unfold run
    cases e : fns f with
    | none => rfl
    | some fn =>
      show (if (shsn h0 xs).length = fn.np ∧ fn.np ≤ fn.n then _ else R.bad) = R.fr h0 (shn h0) (if xs.length = fn.np ∧ fn.np ≤ fn.n then _ else R.bad)
      rw [shs_len]
      by_cases z : xs.length = fn.np ∧ fn.np ≤ fn.n
      · rw [if_pos z, if_pos z]
        have e1 : (shsn h0 xs).map some ++ List.replicate (fn.n - fn.np) none = slsh h0 (xs.map some ++ List.replicate (fn.n - fn.np) none) := by
          unfold slsh
          rw [List.map_append, List.map_replicate, show shsn h0 xs = xs.map (C.sh h0.length) from shs_map _ _, List.map_map, List.map_map]
          rfl
        rw [e1, show Ss.ev (run fns sub w d) sub w fn.body none (slsh h0 (xs.map some ++ List.replicate (fn.n - fn.np) none)) (fh h0 h) = _ from Ss_fr (run_fr hn cl d) fn.body (hn f fn e) none _ h]
        cases Ss.ev (run fns sub w d) sub w fn.body none (xs.map some ++ List.replicate (fn.n - fn.np) none) h with
        | nx sl2 h2 => show tidy (fh h0 h).length (shn h0 .non) (fh h0 h2) = _; rw [fh_len, tidy_fr cl]
        | ret c h2 => show tidy (fh h0 h).length (shn h0 c) (fh h0 h2) = _; rw [fh_len, tidy_fr cl]
        | err k ys sl2 h2 => show tidyX (fh h0 h).length k (shsn h0 ys) (fh h0 h2) = _; rw [fh_len, tidyX_fr cl]
        | _ => rfl
      · rw [if_neg z, if_neg z]; rfl
/-- a call that holds on to no list: what it does with nothing around it does beside any closed store -/
theorem run_pure {fns : Nat → Option Fn} {sub : Nat → Str → Option Bool} {w d f : Nat} {xs : List C} {c : C} (hn : ∀ f fn, fns f = some fn → fn.body.nr = true) (e : run fns sub w d f xs [] = .ok c []) (nx : C.nrs xs = true) (nc : c.nr = true) (h : Hc) (cl : ClH h) : run fns sub w d f xs h = .ok c h := by
  have := run_fr (sub := sub) (w := w) hn cl d f xs []
  rw [e, show shsn h xs = xs from nrs_shs _ xs nx, fh_nil] at this
  rw [this]
  show R.ok (C.sh h.length c) (fh h []) = _
  rw [nr_sh _ c nc, fh_nil]
theorem run_pureX {fns : Nat → Option Fn} {sub : Nat → Str → Option Bool} {w d f k : Nat} {xs ys : List C} (hn : ∀ f fn, fns f = some fn → fn.body.nr = true) (e : run fns sub w d f xs [] = .err k ys []) (nx : C.nrs xs = true) (nc : C.nrs ys = true) (h : Hc) (cl : ClH h) : run fns sub w d f xs h = .err k ys h := by
  have := run_fr (sub := sub) (w := w) hn cl d f xs []
  rw [e, show shsn h xs = xs from nrs_shs _ xs nx, fh_nil] at this
  rw [this]
  show R.err k (C.shs h.length ys) (fh h []) = _
  rw [nrs_shs _ ys nc, fh_nil]
end Sh
set_option linter.all false
set_option autoImplicit false
set_option maxRecDepth 100000
set_option maxHeartbeats 4000000
/-! Sh, part T: reckoning with rows of whole numbers, loops, comprehensions, repr. -/
namespace Sh
open PySem
def iZ (xs : List Int) : List C := xs.map C.int
def tZ (xs : List Int) : C := .tup (iZ xs)
/-- the number at a place, 0 beyond -/
def gI (xs : List Int) (k : Nat) : Int := xs.getD k 0
def gC (cs : List C) (k : Nat) : C := cs.getD k .non
theorem gI_of {xs : List Int} {k : Nat} (h : k < xs.length) : xs[k]? = some (gI xs k) := by simp [gI, List.getD, h]
theorem gC_of {xs : List C} {k : Nat} (h : k < xs.length) : xs[k]? = some (gC xs k) := by simp [gC, List.getD, h]
theorem iZ_len (xs : List Int) : (iZ xs).length = xs.length := by simp [iZ]
theorem iZ_get (xs : List Int) (i : Nat) : (iZ xs)[i]? = (xs[i]?).map C.int := by simp [iZ]
theorem iZ_app (xs ys : List Int) : iZ (xs ++ ys) = iZ xs ++ iZ ys := by simp [iZ]
theorem iZ_set (xs : List Int) (i : Nat) (x : Int) : (iZ xs).set i (.int x) = iZ (xs.set i x) := by simp [iZ, List.map_set]
theorem iZ_take (xs : List Int) (i : Nat) : (iZ xs).take i = iZ (xs.take i) := by simp [iZ, List.map_take]
theorem iZ_drop (xs : List Int) (i : Nat) : (iZ xs).drop i = iZ (xs.drop i) := by simp [iZ, List.map_drop]
theorem iZ_rev (xs : List Int) : (iZ xs).reverse = iZ xs.reverse := by simp [iZ, List.map_reverse]
theorem iZ_dl (xs : List Int) : (iZ xs).dropLast = iZ xs.dropLast := by simp [iZ, List.map_dropLast]
theorem iZ_emp (xs : List Int) : (iZ xs).isEmpty = xs.isEmpty := by cases xs <;> rfl
theorem iZ_nil (xs : List Int) : iZ xs = [] ↔ xs = [] := by cases xs <;> simp [iZ]
theorem iZ_cons (x : Int) (xs : List Int) : iZ (x :: xs) = .int x :: iZ xs := rfl
theorem iZ_nr : ∀ xs : List Int, C.nrs (iZ xs) = true
  | [] => rfl
  | _ :: xs => by show (true && C.nrs (iZ xs)) = true; rw [iZ_nr xs]; rfl
theorem iZ_unders (n : Nat) : ∀ xs : List Int, C.unders n (iZ xs) = true
  | [] => rfl
  | _ :: xs => by show (true && C.unders n (iZ xs)) = true; rw [iZ_unders n xs]; rfl
theorem iZ_shs (n : Nat) (xs : List Int) : C.shs n (iZ xs) = iZ xs := nrs_shs n _ (iZ_nr xs)
theorem tZ_nr (xs : List Int) : (tZ xs).nr = true := iZ_nr xs
theorem iZ_iZ : ∀ xs : List Int, intsC (iZ xs) = some xs
  | [] => rfl
  | x :: xs => by show (intsC (iZ xs)).map (x :: ·) = _; rw [iZ_iZ xs]; rfl
/-! ### closed stores -/
theorem cl_nil : ClH [] := rfl
theorem tidy_cl {h : Hc} (cl : ClH h) (c : C) (x : Hc) (hc : c.under h.length = true) : tidy h.length c (h ++ x) = .ok c h := by
  unfold tidy
  rw [List.take_left, show h.all (C.unders h.length) = true from cl, hc]
  rfl
theorem tidyX_cl {h : Hc} (cl : ClH h) (k : Nat) (xs : List C) (x : Hc) (hc : C.unders h.length xs = true) : tidyX h.length k xs (h ++ x) = .err k xs h := by
  unfold tidyX
  rw [List.take_left, show h.all (C.unders h.length) = true from cl, hc]
  rfl
theorem cl_push {h : Hc} (cl : ClH h) {xs : List C} (hx : C.unders (h.length + 1) xs = true) : ClH (h ++ [xs]) := by
  unfold ClH
  rw [List.length_append, List.all_append]
  show (h.all (C.unders (h.length + 1)) && [xs].all (C.unders (h.length + 1))) = true
  have a1 : h.all (C.unders (h.length + 1)) = true := List.all_eq_true.mpr fun l hl => unders_le (by omega) l (List.all_eq_true.mp cl l hl)
  rw [a1]
  simp [hx]
theorem cl_set {h : Hc} (cl : ClH h) {n : Nat} {xs : List C} (hx : C.unders h.length xs = true) : ClH (h.set n xs) := by
  unfold ClH
  rw [List.length_set]
  refine List.all_eq_true.mpr fun l hl => ?_
  rcases List.mem_or_eq_of_mem_set hl with z | rfl
  · exact List.all_eq_true.mp cl l z
  · exact hx
/-! ### items -/
theorem ix_nat (n i : Nat) : ixC n (i : Int) = if i < n then some i else none := by
  unfold ixC
  rw [if_pos (by omega)]
  by_cases h : i < n
  · rw [if_pos (by omega), if_pos h]; simp
  · rw [if_neg (by omega), if_neg h]
theorem ix_last (n : Nat) (h : 0 < n) : ixC n (-1) = some (n - 1) := by
  unfold ixC
  rw [if_neg (by omega), if_pos (by omega)]
  congr 1
  omega
theorem item_of {h : Hc} {x : C} {xs : List C} {i : Int} {j : Nat} {c : C} (e : seqOf h x = some xs) (e1 : ixC xs.length i = some j) (e2 : xs[j]? = some c) : item x (.int i) h = .ok c h := by
  show (match seqOf h x with
    | some xs => match (ixC xs.length i).bind fun j => xs[j]? with
      | some c => R.ok c h
      | none => .bad
    | none => itemS x i h) = _
  rw [e]
  show (match (ixC xs.length i).bind fun j => xs[j]? with
      | some c => R.ok c h
      | none => .bad) = _
  rw [e1]
  show (match xs[j]? with
      | some c => R.ok c h
      | none => .bad) = _
  rw [e2]
theorem item_iZ {h : Hc} {x : C} {xs : List Int} (i : Nat) (e : seqOf h x = some (iZ xs)) (hi : i < xs.length) : item x (.int (i : Int)) h = .ok (.int (gI xs i)) h := by
  refine item_of e (j := i) (by rw [ix_nat, iZ_len, if_pos hi]) ?_
  rw [iZ_get, gI_of hi]; rfl
theorem item_iZI {h : Hc} {x : C} {xs : List Int} {j : Int} (i : Nat) (e : seqOf h x = some (iZ xs)) (hj : j = (i : Int)) (hi : i < xs.length) : item x (.int j) h = .ok (.int (gI xs i)) h := by
  subst hj
  exact item_iZ i e hi
theorem item_last {h : Hc} {x : C} {xs : List Int} (e : seqOf h x = some (iZ xs)) (hi : 0 < xs.length) : item x (.int (-1)) h = .ok (.int (gI xs (xs.length - 1))) h := by
  refine item_of e (j := xs.length - 1) (by rw [iZ_len, ix_last _ hi]) ?_
  rw [iZ_get, gI_of (by omega)]; rfl
theorem setitem_iZ {h : Hc} {n i : Nat} {xs : List Int} {v : Int} (e : h[n]? = some (iZ xs)) (hi : i < xs.length) : setitem (.ref n) (.int (i : Int)) (.int v) h = .ok () (h.set n (iZ (xs.set i v))) := by
  show (match h[n]? with
    | some xs => match ixC xs.length (i : Int) with
      | some j => R.ok () (h.set n (xs.set j (.int v)))
      | none => .bad
    | none => .bad) = _
  rw [e]
  show (match ixC (iZ xs).length (i : Int) with
      | some j => R.ok () (h.set n ((iZ xs).set j (.int v)))
      | none => .bad) = _
  rw [ix_nat, iZ_len, if_pos hi]
  show R.ok () (h.set n ((iZ xs).set i (.int v))) = _
  rw [iZ_set]
theorem seq_ref {h : Hc} {n : Nat} {xs : List C} (e : h[n]? = some xs) : seqOf h (.ref n) = some xs := e
theorem seq_tZ (h : Hc) (xs : List Int) : seqOf h (tZ xs) = some (iZ xs) := rfl
theorem len_of {h : Hc} {x : C} {xs : List C} (e : seqOf h x = some xs) : bi .len [x] h = .ok (.int xs.length) h := by
  cases x
  case tup ys => cases e; rfl
  case frz ys => cases e; rfl
  case ref n =>
    show (match seqOf h (.ref n) with
        | some ys => R.ok (C.int ys.length) h
        | none => .bad) = _
    rw [e]
  all_goals cases e
theorem len_tZ (h : Hc) (xs : List Int) : bi .len [tZ xs] h = .ok (.int xs.length) h := by rw [len_of (seq_tZ h xs), iZ_len]
theorem len_refI {h : Hc} {n : Nat} {xs : List Int} (e : h[n]? = some (iZ xs)) : bi .len [.ref n] h = .ok (.int xs.length) h := by rw [len_of (seq_ref e), iZ_len]
theorem cut_to (xs : List C) (k : Nat) (hk : k ≤ xs.length) : cutC xs none (some (k : Int)) = xs.take k := by
  unfold cutC sIxC
  dsimp only
  rw [if_neg (by omega)]
  simp [Nat.min_eq_left hk]
theorem slice_ref {h : Hc} {n : Nat} {xs : List C} (e : h[n]? = some xs) (lo hi : Option Int) : slice (.ref n) lo hi h = .ok (.ref h.length) (h ++ [cutC xs lo hi]) := by
  show (match h[n]? with
    | some xs => R.ok (C.ref h.length) (h ++ [cutC xs lo hi])
    | none => .bad) = _
  rw [e]
theorem tuple_ref {h : Hc} {n : Nat} {xs : List C} (e : h[n]? = some xs) : bi .tuple [.ref n] h = .ok (.tup xs) h := by
  show (match h[n]? with
      | some cs => R.ok (C.tup cs) h
      | none => .bad) = _
  rw [e]
theorem list_of {h : Hc} {x : C} {xs : List C} (e : seqOf h x = some xs) : bi .list [x] h = .ok (.ref h.length) (h ++ [xs]) := by
  show (match seqOf h x with
      | some cs => R.ok (C.ref h.length) (h ++ [cs])
      | none => .bad) = _
  rw [e]
theorem last_get (h : Hc) (xs : List C) : (h ++ [xs])[h.length]? = some xs := by simp
/-! ### loops -/
theorem forF_gen {it : ItV} {n : Nat} {el : Nat → C} {g : C → Sl → Hc → R Sl} {b : Sl → Hc → RS'} (inv : Nat → Sl → Hc → Prop) (hat : ∀ i sl h, inv i sl h → i ≤ n → it.at_ i h = if i < n then some (some (el i)) else some none)
    (step : ∀ i sl h, inv i sl h → i < n → ∃ sl1 h1 sl2 h2, g (el i) sl h = .ok sl1 h1 ∧ (b sl1 h1 = .nx sl2 h2 ∨ b sl1 h1 = .ct sl2 h2) ∧ inv (i + 1) sl2 h2) :
    ∀ (f i : Nat) (sl : Sl) (h : Hc), inv i sl h → i ≤ n → n < i + f → ∃ sl' h', forF it g b f i sl h = .nx sl' h' ∧ inv n sl' h'
  | 0, i, sl, h, _, h1, h2 => by omega
  | f + 1, i, sl, h, hi, h1, h2 => by
    have e := hat i sl h hi h1
    by_cases z : i < n
    · obtain ⟨sl1, h1', sl2, h2', e1, e2, e3⟩ := step i sl h hi z
      obtain ⟨sl', h', e4, e5⟩ := forF_gen inv hat step f (i + 1) sl2 h2' e3 z (by omega)
      refine ⟨sl', h', ?_, e5⟩
      unfold forF
      rw [e, if_pos z]
      show (R.noerr (g (el i) sl h)).th sl _ = _
      rw [e1]
      show (match b sl1 h1' with
        | .nx sl2 h2 => forF it g b f (i + 1) sl2 h2
        | .ct sl2 h2 => forF it g b f (i + 1) sl2 h2
        | .bk sl2 h2 => .nx sl2 h2
        | r => r) = _
      rcases e2 with e2 | e2 <;> rw [e2] <;> exact e4
    · have : i = n := by omega
      subst this
      refine ⟨sl, h, ?_, hi⟩
      unfold forF
      rw [e, if_neg z]
/-- a loop that may return from within -/
theorem forF_ret {it : ItV} {n : Nat} {el : Nat → C} {g : C → Sl → Hc → R Sl} {b : Sl → Hc → RS'} (inv : Nat → Sl → Hc → Prop) (rt : Nat → C → Hc → Prop) (hat : ∀ i sl h, inv i sl h → i ≤ n → it.at_ i h = if i < n then some (some (el i)) else some none)
    (step : ∀ i sl h, inv i sl h → i < n → ∃ sl1 h1, g (el i) sl h = .ok sl1 h1 ∧ ((∃ sl2 h2, (b sl1 h1 = .nx sl2 h2 ∨ b sl1 h1 = .ct sl2 h2) ∧ inv (i + 1) sl2 h2) ∨ ∃ c h2, b sl1 h1 = .ret c h2 ∧ rt i c h2)) :
    ∀ (f i : Nat) (sl : Sl) (h : Hc), inv i sl h → i ≤ n → n < i + f → (∃ sl' h', forF it g b f i sl h = .nx sl' h' ∧ inv n sl' h') ∨ ∃ j c h', i ≤ j ∧ j < n ∧ forF it g b f i sl h = .ret c h' ∧ rt j c h'
  | 0, i, sl, h, _, h1, h2 => by omega
  | f + 1, i, sl, h, hi, h1, h2 => by
    have e := hat i sl h hi h1
    by_cases z : i < n
    · obtain ⟨sl1, h1', e1, e2⟩ := step i sl h hi z
      have un : forF it g b (f + 1) i sl h = (match b sl1 h1' with
        | .nx sl2 h2 => forF it g b f (i + 1) sl2 h2
        | .ct sl2 h2 => forF it g b f (i + 1) sl2 h2
        | .bk sl2 h2 => .nx sl2 h2
        | r => r) := by
        rw [forF, e, if_pos z]
        show (R.noerr (g (el i) sl h)).th sl _ = _
        rw [e1]
        rfl
      rcases e2 with ⟨sl2, h2', e2, e3⟩ | ⟨c, h2', e2, e3⟩
      · have un2 : forF it g b (f + 1) i sl h = forF it g b f (i + 1) sl2 h2' := by
          rw [un]
          rcases e2 with e2 | e2 <;> rw [e2]
        rcases forF_ret inv rt hat step f (i + 1) sl2 h2' e3 z (by omega) with ⟨sl', h', e4, e5⟩ | ⟨j, c, h', e4, e5, e6, e7⟩
        · exact .inl ⟨sl', h', by rw [un2]; exact e4, e5⟩
        · exact .inr ⟨j, c, h', by omega, e5, by rw [un2]; exact e6, e7⟩
      · exact .inr ⟨i, c, h2', Nat.le_refl _, z, by rw [un, e2], e3⟩
    · have : i = n := by omega
      subst this
      refine .inl ⟨sl, h, ?_, hi⟩
      unfold forF
      rw [e, if_neg z]
theorem at_tre (cs : List C) (i : Nat) (h : Hc) : (ItV.tre cs).at_ i h = some cs[i]? := rfl
theorem at_treI (xs : List Int) (i : Nat) (h : Hc) : (ItV.tre (iZ xs)).at_ i h = if i < xs.length then some (some (.int (gI xs i))) else some none := by
  rw [at_tre, iZ_get]
  by_cases z : i < xs.length
  · rw [if_pos z, gI_of z]; rfl
  · rw [if_neg z, List.getElem?_eq_none (by omega)]; rfl
theorem at_rng (lo : Int) (n i : Nat) (h : Hc) : (ItV.rng lo n).at_ i h = if i < n then some (some (.int (lo + i))) else some none := rfl
theorem at_entI (xs : List Int) (i : Nat) (h : Hc) : (ItV.ent (iZ xs)).at_ i h = if i < xs.length then some (some (.tup [.int i, .int (gI xs i)])) else some none := by
  show some (match (iZ xs)[i]? with
    | some c => some (C.tup [.int i, c])
    | none => none) = _
  rw [iZ_get]
  by_cases z : i < xs.length
  · rw [if_pos z, gI_of z]; rfl
  · rw [if_neg z, List.getElem?_eq_none (by omega)]; rfl
theorem at_lst {h : Hc} {n : Nat} {xs : List C} (e : h[n]? = some xs) (i : Nat) : (ItV.lst n).at_ i h = some xs[i]? := by
  show (match h[n]? with | some cs => some cs[i]? | none => none) = _
  rw [e]
theorem while_go {t : Sl → Hc → R Bool} {b : Sl → Hc → RS'} {n : Nat} {sl sl2 : Sl} {h h1 h2 : Hc} (e1 : t sl h = .ok true h1) (e2 : b sl h1 = .nx sl2 h2) : whileF t b (n + 1) sl h = whileF t b n sl2 h2 := by
  rw [whileF, e1]
  show (match b sl h1 with
        | .nx sl2 h2 => whileF t b n sl2 h2
        | .ct sl2 h2 => whileF t b n sl2 h2
        | .bk sl2 h2 => .nx sl2 h2
        | r => r) = _
  rw [e2]
theorem while_end {t : Sl → Hc → R Bool} {b : Sl → Hc → RS'} {n : Nat} {sl : Sl} {h h1 : Hc} (e1 : t sl h = .ok false h1) : whileF t b (n + 1) sl h = .nx sl h1 := by
  rw [whileF, e1]
  rfl
theorem compF_gen {it : ItV} {n : Nat} {el : Nat → C} {g : C → Sl → Hc → R Sl} {t : Sl → Hc → R Bool} {e : Sl → Hc → R C} {sl : Sl} (inv : Nat → List C → Hc → Prop) (hat : ∀ i acc h, inv i acc h → i ≤ n → it.at_ i h = if i < n then some (some (el i)) else some none)
    (step : ∀ i acc h, inv i acc h → i < n → ∃ sl1 h1 k h2, g (el i) sl h = .ok sl1 h1 ∧ t sl1 h1 = .ok k h2 ∧ (k = false → inv (i + 1) acc h2) ∧ (k = true → acc.length < lineN ∧ ∃ x h3, e sl1 h2 = .ok x h3 ∧ inv (i + 1) (acc ++ [x]) h3)) :
    ∀ (f i : Nat) (acc : List C) (h : Hc), inv i acc h → i ≤ n → n < i + f → ∃ acc' h', compF it g t e f i sl acc h = .ok acc' h' ∧ inv n acc' h'
  | 0, i, acc, h, _, h1, h2 => by omega
  | f + 1, i, acc, h, hi, h1, h2 => by
    have e0 := hat i acc h hi h1
    by_cases z : i < n
    · obtain ⟨sl1, h1', k, h2', e1, e2, e3, e4⟩ := step i acc h hi z
      have un : compF it g t e (f + 1) i sl acc h = (if k then (e sl1 h2').bind fun x h3 => if acc.length < lineN then compF it g t e f (i + 1) sl (acc ++ [x]) h3 else .bad
          else compF it g t e f (i + 1) sl acc h2') := by
        rw [compF, e0, if_pos z]
        show (g (el i) sl h).bind _ = _
        rw [e1]
        show (t sl1 h1').bind _ = _
        rw [e2]
        rfl
      cases k with
      | false =>
        obtain ⟨acc', h', e5, e6⟩ := compF_gen inv hat step f (i + 1) acc h2' (e3 rfl) z (by omega)
        exact ⟨acc', h', by rw [un]; exact e5, e6⟩
      | true =>
        obtain ⟨l, x, h3, e5, e6⟩ := e4 rfl
        obtain ⟨acc', h', e7, e8⟩ := compF_gen inv hat step f (i + 1) (acc ++ [x]) h3 e6 z (by omega)
        refine ⟨acc', h', ?_, e8⟩
        rw [un, if_pos rfl, e5]
        show (if acc.length < lineN then compF it g t e f (i + 1) sl (acc ++ [x]) h3 else .bad) = _
        rw [if_pos l]
        exact e7
    · have : i = n := by omega
      subst this
      refine ⟨acc, h, ?_, hi⟩
      rw [compF, e0, if_neg z]
/-- a comprehension whose parts leave the store: a row of all its turns -/
theorem compF_map {it : ItV} {n : Nat} {el ev : Nat → C} {g : C → Sl → Hc → R Sl} {t : Sl → Hc → R Bool} {e : Sl → Hc → R C} {sl : Sl} {h : Hc} (hn : n ≤ 100000) (hat : ∀ i, i ≤ n → it.at_ i h = if i < n then some (some (el i)) else some none)
    (step : ∀ i, i < n → ∃ sl1, g (el i) sl h = .ok sl1 h ∧ t sl1 h = .ok true h ∧ e sl1 h = .ok (ev i) h) (f : Nat) (hf : n < f) : compF it g t e f 0 sl [] h = .ok ((List.range n).map ev) h := by
  obtain ⟨acc, h', e1, e2, e3⟩ := compF_gen (it := it) (n := n) (el := el) (g := g) (t := t) (e := e) (sl := sl) (fun i acc h' => h' = h ∧ acc = (List.range i).map ev) (fun i acc h' hi hl => by rw [hi.1]; exact hat i hl)
    (fun i acc h' hi hl => by
      obtain ⟨rfl, rfl⟩ := hi
      obtain ⟨sl1, s1, s2, s3⟩ := step i hl
      exact ⟨sl1, h', true, h', s1, s2, (fun z => by cases z), fun _ => ⟨by simp [lineN]; omega, ev i, h', s3, rfl, by simp [List.range_succ]⟩⟩) f 0 [] h ⟨rfl, rfl⟩ (Nat.zero_le _) (by omega)
  subst e2 e3
  exact e1
/-! ### repr of numbers and tuples of such -/
mutual
def C.toP : C → PyData
  | .int i => .int i
  | .bl b => .bool b
  | .tup cs => .tuple (C.toPs cs)
  | .str x => .str x
  | _ => .none
def C.toPs : List C → List PyData
  | [] => []
  | c :: cs => c.toP :: C.toPs cs
end
structure Fit (c : C) (dp wt : Nat) : Prop where
  d : ∀ h n, dp < n → toD h n c = some c.toP
  s : c.toP.showable = true
  l : c.toP.canLay0 = true
  e : c.toP.depth ≤ dp
  w : c.toP.weight ≤ wt
  h : c.toP.hasDict = false
structure Fits (cs : List C) (dp wt : Nat) : Prop where
  d : ∀ h n, dp < n → cs.mapM (toD h n) = some (C.toPs cs)
  s : PyData.showableAll (C.toPs cs) = true
  l : PyData.canLayAll0 (C.toPs cs) = true
  e : PyData.depthAll (C.toPs cs) ≤ dp
  w : PyData.weightAll (C.toPs cs) ≤ wt
  h : PyData.hasDictAll (C.toPs cs) = false
theorem Fits.nil (dp wt : Nat) : Fits [] dp wt := ⟨fun _ _ _ => rfl, rfl, rfl, Nat.zero_le _, Nat.zero_le _, rfl⟩
theorem Fits.cons {c : C} {cs : List C} {dp a b : Nat} (f : Fit c dp a) (g : Fits cs dp b) : Fits (c :: cs) dp (a + 1 + b) := by
  refine ⟨fun h n hn => ?_, ?_, ?_, ?_, ?_, ?_⟩
  · rw [List.mapM_cons, f.d h n hn, g.d h n hn]; rfl
  · show (c.toP.showable && PyData.showableAll (C.toPs cs)) = true
    rw [f.s, g.s]; rfl
  · show (c.toP.canLay0 && PyData.canLayAll0 (C.toPs cs)) = true
    rw [f.l, g.l]; rfl
  · show max c.toP.depth (PyData.depthAll (C.toPs cs)) ≤ dp
    have := f.e; have := g.e; omega
  · show c.toP.weight + 1 + PyData.weightAll (C.toPs cs) ≤ a + 1 + b
    have := f.w; have := g.w; omega
  · show (c.toP.hasDict || PyData.hasDictAll (C.toPs cs)) = false
    rw [f.h, g.h]; rfl
theorem Fits.tup {cs : List C} {dp a : Nat} (g : Fits cs dp a) : Fit (.tup cs) (dp + 1) a := by
  refine ⟨fun h n hn => ?_, g.s, g.l, ?_, g.w, g.h⟩
  · match n, hn with
    | n + 1, hn =>
      show (cs.mapM (toD h n)).map PyData.tuple = _
      rw [g.d h n (by omega)]
      rfl
  · show PyData.depthAll (C.toPs cs) + 1 ≤ dp + 1
    have := g.e; omega
theorem Fit.mono {c : C} {dp a dq b : Nat} (f : Fit c dp a) (h1 : dp ≤ dq) (h2 : a ≤ b) : Fit c dq b := ⟨fun h n hn => f.d h n (by omega), f.s, f.l, Nat.le_trans f.e h1, Nat.le_trans f.w h2, f.h⟩
theorem Fits.mono {c : List C} {dp a dq b : Nat} (f : Fits c dp a) (h1 : dp ≤ dq) (h2 : a ≤ b) : Fits c dq b := ⟨fun h n hn => f.d h n (by omega), f.s, f.l, Nat.le_trans f.e h1, Nat.le_trans f.w h2, f.h⟩
theorem fit_int {b : Nat} {i : Int} (hi : Bd b i) (hb : b < 1900) (dp : Nat) : Fit (.int i) dp b := by
  have l2 : i.natAbs.log2 < 1920 ∧ (if i == 0 then 0 else i.natAbs.log2 + 1) ≤ b := by
    by_cases z : i.natAbs = 0
    · have : i = 0 := by omega
      subst this
      exact ⟨by decide, Nat.zero_le _⟩
    · have h1 := (Nat.log2_lt z).mpr hi
      refine ⟨by omega, ?_⟩
      split <;> omega
  refine ⟨fun h n hn => ?_, decide_eq_true l2.1, rfl, Nat.zero_le _, l2.2, rfl⟩
  match n, hn with
  | n + 1, _ => rfl
theorem fits_iZ {b : Nat} (hb : b < 1900) (dp : Nat) : ∀ (xs : List Int), (∀ x ∈ xs, Bd b x) → Fits (iZ xs) dp (xs.length * (b + 1))
  | [], _ => Fits.nil _ _
  | x :: xs, h => by
    have := Fits.cons (fit_int (h x (by simp)) hb dp) (fits_iZ hb dp xs fun y hy => h y (by simp [hy]))
    refine this.mono (Nat.le_refl _) ?_
    rw [List.length_cons, Nat.succ_mul]
    omega
theorem fit_tZ {b : Nat} (hb : b < 1900) {xs : List Int} (h : ∀ x ∈ xs, Bd b x) : Fit (tZ xs) 1 (xs.length * (b + 1)) := (fits_iZ hb 0 xs h).tup
theorem repr_fit {c : C} {dp wt : Nat} (f : Fit c dp wt) (h1 : dp ≤ 50) (h2 : wt ≤ 8000) (h : Hc) : bi .repr [c] h = .ok (.rep c.toP) h := by
  show (match datum h c with
      | some d => if d.showable && SeqAt.shaped d && shortD d then R.ok (C.rep d) h else .bad
      | none => .bad) = _
  rw [show datum h c = some c.toP from f.d h 60 (by omega)]
  show (if c.toP.showable && SeqAt.shaped c.toP && shortD c.toP then R.ok (C.rep c.toP) h else .bad) = _
  have e1 : SeqAt.shaped c.toP = true := by
    unfold SeqAt.shaped
    rw [f.l, decide_eq_true (Nat.le_trans f.e (by omega))]; rfl
  have e2 : shortD c.toP = true := decide_eq_true (Nat.le_trans f.w h2)
  rw [f.s, e1, e2]
  rfl
theorem eq_rep {d : PyData} (hd : d.hasDict = false) (h : Hc) : cmpop .eq (.rep d) (.rep d) h = .ok (.bl true) h := by
  show (match ceq h 40 (.rep d) (.rep d) with
      | some b => R.ok (C.bl b) h
      | none => .bad) = _
  have : ceq h 40 (.rep d) (.rep d) = some true := by
    show (if pdEq d d then some true else eqFar h 40 (.rep d) (.rep d)) = _
    rw [pd_refl _ hd]
    rfl
  rw [this]
end Sh
set_option linter.all false
set_option autoImplicit false
set_option maxRecDepth 100000
set_option maxHeartbeats 4000000
/-! Sh, part U: what defs of the program do, wherever they stand. -/
namespace Sh
open PySem
def F_is_integer : Fn := ⟨1, 1, (.cons (.ret (.andv (.isi (.var 0) .int) (.notv (.isi (.var 0) .bool)))) .nil)⟩
def T_trimmed_1 : T := (.and (.tr (.var 1)) (.cmp .eq (.idx (.var 0) (.bin .sub (.var 1) (.con (.int 1)))) (.con (.int 0))))
def L_trimmed_2 : Ss := (.cons (.aug 1 .sub (.con (.int 1))) .nil)
def F_trimmed : Fn := ⟨2, 1, (.cons (.asg (.v 1) (.bi .len (.cons (.var 0) .nil))) (.cons (.whl T_trimmed_1 L_trimmed_2) (.cons (.ret (.bi .tuple (.cons (.slc (.var 0) .none (.some (.var 1))) .nil))) .nil)))⟩
def T_divided_1 : T := (.cmp .ge (.bi .len (.cons (.var 2) .nil)) (.bi .len (.cons (.var 1) .nil)))
def P_divided_2 : Pt := (.v 6)
def L_divided_3 : Ss := (.cons (.augi (.var 2) (.bin .add (.var 5) (.var 6)) .sub (.bin .mul (.var 4) (.idx (.var 1) (.var 6)))) .nil)
def L_divided_4 : Ss := (.cons (.asg (.v 4) (.bin .div (.pop (.var 2)) (.idx (.var 1) (.neg (.con (.int 1)))))) (.cons (.app (.var 3) (.var 4)) (.cons (.asg (.v 5) (.bin .add (.bin .sub (.bi .len (.cons (.var 2) .nil)) (.bi .len (.cons (.var 1) .nil))) (.con (.int 1)))) (.cons (.for_ P_divided_2 (.rng1 (.bin .sub (.bi .len (.cons (.var 1) .nil)) (.con (.int 1)))) L_divided_3) .nil))))
def F_divided (j_trimmed : Nat) : Fn := ⟨7, 2, (.cons (.asg (.v 2) (.bi .list (.cons (.var 0) .nil))) (.cons (.asg (.v 3) (.lst .nil)) (.cons (.whl T_divided_1 L_divided_4) (.cons (.ret (.tup (.cons (.bi .tuple (.cons (.revs (.var 3)) .nil)) (.cons (.call j_trimmed (.cons (.var 2) .nil)) .nil)))) .nil))))⟩
def P_is_polynomial_1 : Pt := (.v 1)
def L_is_polynomial_2 (j_is_integer : Nat) : Ss := (.cons (.ifs (.or (.not (.tr (.call j_is_integer (.cons (.var 1) .nil)))) (.cmp .gt (.bi .abs (.cons (.var 1) .nil)) (.glob "MOST_SIZE" (.int 1000000)))) (.cons (.ret (.con (.bl false))) .nil) .nil) .nil)
def F_is_polynomial (j_is_integer : Nat) : Fn := ⟨2, 1, (.cons (.ifs (.or (.not (.tr (.isi (.var 0) .tuple))) (.cmp .gt (.bi .len (.cons (.var 0) .nil)) (.glob "MOST_NUMBERS" (.int 13)))) (.cons (.ret (.con (.bl false))) .nil) .nil) (.cons (.for_ P_is_polynomial_1 (.seq (.var 0)) (L_is_polynomial_2 j_is_integer)) (.cons (.ret (.orv (.cmp .eq (.bi .len (.cons (.var 0) .nil)) (.con (.int 0))) (.cmp .ne (.idx (.var 0) (.neg (.con (.int 1)))) (.con (.int 0))))) .nil)))⟩
def F_check_polynomial (j_is_polynomial x_InvalidPolynomial : Nat) : Fn := ⟨1, 1, (.cons (.ifs (.not (.tr (.call j_is_polynomial (.cons (.var 0) .nil)))) (.cons (.raise x_InvalidPolynomial (.cons (.var 0) .nil)) .nil) .nil) .nil)⟩
def F_check_monic (x_NotMonic : Nat) : Fn := ⟨1, 1, (.cons (.ifs (.or (.cmp .lt (.bi .len (.cons (.var 0) .nil)) (.con (.int 2))) (.cmp .ne (.idx (.var 0) (.neg (.con (.int 1)))) (.con (.int 1)))) (.cons (.raise x_NotMonic .nil) .nil) .nil) .nil)⟩
def F_poly_divided (j_divided j_check_monic j_check_polynomial : Nat) : Fn := ⟨2, 2, (.cons (.expr (.call j_check_polynomial (.cons (.var 0) .nil))) (.cons (.expr (.call j_check_polynomial (.cons (.var 1) .nil))) (.cons (.expr (.call j_check_monic (.cons (.var 1) .nil))) (.cons (.ret (.call j_divided (.cons (.var 0) (.cons (.var 1) .nil)))) .nil))))⟩

section
variable {fns : Nat → Option Fn} {sub : Nat → Str → Option Bool} {w : Nat}
theorem un {f : Nat} {fn : Fn} (e : fns f = some fn) (d : Nat) (xs : List C) (h : Hc) (hl : xs.length = fn.np) (h2 : fn.np ≤ fn.n) : run fns sub w (d + 1) f xs h = fin h (Ss.ev (run fns sub w d) sub w fn.body none (xs.map some ++ List.replicate (fn.n - fn.np) none) h) := by
  rw [run, e]
  show (if xs.length = fn.np ∧ fn.np ≤ fn.n then _ else R.bad) = _
  rw [if_pos ⟨hl, h2⟩]
  cases Ss.ev (run fns sub w d) sub w fn.body none (xs.map some ++ List.replicate (fn.n - fn.np) none) h <;> rfl
def isI : C → Bool
  | .int _ => true
  | _ => false
theorem is_integer_run {i : Nat} (e : fns i = some F_is_integer) (d : Nat) (h : Hc) (x : C) : run fns sub w (d + 1) i [x] h = .ok (.bl (isI x)) h := by
  rw [un e d _ _ rfl (of_decide_eq_true rfl)]
  cases x <;> simp [F_is_integer, Ss.ev, S.ev, Hs.ev, E.ev, Es.ev, T.ev, Pt.put, Pts.put, Pts.len, Es.len, Oe.ev, It.ev, bind_ok, bind_err, bind_bad, th_ok, th_err, th_bad, nxth, retth, errth, badth, noerr_ok, fin_nx, fin_ret, fin_err, tidy_same, tidyX_same, List.getElem?_cons_zero, List.getElem?_cons_succ, List.set_cons_zero, List.set_cons_succ, isiC, isiT, tyC, isI]
/-! ### trimmed -/
def tl (xs : List Int) : Nat → Nat
  | 0 => 0
  | k + 1 => if gI xs k = 0 then tl xs k else k + 1
def trimZ (xs : List Int) : List Int := xs.take (tl xs xs.length)
theorem tl_le (xs : List Int) : ∀ k, tl xs k ≤ k
  | 0 => Nat.le_refl _
  | k + 1 => by unfold tl; split; have := tl_le xs k; omega; omega
theorem tl_zero (xs : List Int) : ∀ k j, tl xs k ≤ j → j < k → gI xs j = 0
  | 0, j, _, h => by omega
  | k + 1, j, h1, h2 => by
    unfold tl at h1
    split at h1
    · rename_i z
      by_cases hj : j = k
      · rw [hj]; exact z
      · exact tl_zero xs k j h1 (by omega)
    · omega
theorem tl_top (xs : List Int) : ∀ k, tl xs k = 0 ∨ gI xs (tl xs k - 1) ≠ 0
  | 0 => .inl rfl
  | k + 1 => by
    unfold tl
    split
    · exact tl_top xs k
    · rename_i z
      exact .inr z
theorem tl_uni {xs : List Int} {k m : Nat} (h1 : m ≤ k) (h2 : ∀ j, m ≤ j → j < k → gI xs j = 0) (h3 : m = 0 ∨ gI xs (m - 1) ≠ 0) : m = tl xs k := by
  have a := tl_le xs k
  have b := tl_zero xs k
  have c := tl_top xs k
  rcases Nat.lt_trichotomy m (tl xs k) with z | z | z
  · rcases c with c | c
    · omega
    · exact absurd (h2 (tl xs k - 1) (by omega) (by omega)) c
  · exact z
  · rcases h3 with c | c
    · omega
    · exact absurd (b (m - 1) (by omega) (by omega)) c
theorem getD_take (xs : List Int) (k j : Nat) : gI (xs.take k) j = if j < k then gI xs j else 0 := by
  simp only [gI, List.getD_eq_getElem?_getD, List.getElem?_take]
  split <;> rfl
theorem getD_big {xs : List Int} {j : Nat} (h : xs.length ≤ j) : gI xs j = 0 := by
  simp [gI, List.getD_eq_getElem?_getD, List.getElem?_eq_none h]
theorem trim_get (xs : List Int) (j : Nat) : gI (trimZ xs) j = gI xs j := by
  unfold trimZ
  rw [getD_take]
  split
  · rfl
  · by_cases h : j < xs.length
    · exact (tl_zero xs _ j (by omega) h).symm
    · exact (getD_big (by omega)).symm
/-- a row without noughts on its head -/
def Trim (xs : List Int) : Prop := xs = [] ∨ gI xs (xs.length - 1) ≠ 0
theorem trim_len (xs : List Int) : (trimZ xs).length = tl xs xs.length := by
  unfold trimZ
  rw [List.length_take]
  have := tl_le xs xs.length
  omega
theorem trim_trim (xs : List Int) : Trim (trimZ xs) := by
  rcases tl_top xs xs.length with h | h
  · exact .inl (List.eq_nil_of_length_eq_zero (by rw [trim_len, h]))
  · exact .inr (by rw [trim_len, trim_get]; exact h)
theorem ext_of {xs ys : List Int} (hl : xs.length = ys.length) (h : ∀ j, gI xs j = gI ys j) : xs = ys := by
  refine List.ext_getElem hl fun i h1 h2 => ?_
  have := h i
  simpa [gI, List.getD_eq_getElem?_getD, List.getElem?_eq_getElem h1, List.getElem?_eq_getElem h2] using this
theorem Trim.uni {xs ys : List Int} (a : Trim xs) (b : Trim ys) (h : ∀ j, gI xs j = gI ys j) : xs = ys := by
  refine ext_of ?_ h
  have key : ∀ {xs ys : List Int}, Trim xs → (∀ j, gI xs j = gI ys j) → xs.length ≤ ys.length := fun {xs ys} a h => by
    rcases a with rfl | a
    · exact Nat.zero_le _
    · refine Nat.le_of_not_lt fun z => a ?_
      rw [h, getD_big (by omega)]
  exact Nat.le_antisymm (key a h) (key b fun j => (h j).symm)
theorem Trim.trim {xs : List Int} (a : Trim xs) : trimZ xs = xs := (trim_trim xs).uni a (trim_get xs)
theorem truth_int (i : Int) (h : Hc) : truth (.int i) h = .ok (i != 0) h := rfl
theorem sub_int (i j : Int) (h : Hc) : binop .sub (.int i) (.int j) h = .ok (.int (i - j)) h := rfl
theorem add_int (i j : Int) (h : Hc) : binop .add (.int i) (.int j) h = .ok (.int (i + j)) h := rfl
theorem aug_sub (i j : Int) (h : Hc) : augC .sub i j h = .ok (.int (i - j)) h := rfl
theorem aug_add (i j : Int) (h : Hc) : augC .add i j h = .ok (.int (i + j)) h := rfl
theorem bin_mul' (i j : C) (h : Hc) : binop .mul i j h = mulC i j h := rfl
theorem bin_div' (i j : C) (h : Hc) : binop .div i j h = divC i j h := rfl
theorem bin_mod' (i j : C) (h : Hc) : binop .mod i j h = modC i j h := rfl
theorem truth_b (b : Bool) (h : Hc) : truth (.bl b) h = .ok b h := rfl
theorem gt_i (h : Hc) (i j : Int) : cmpop .gt (.int i) (.int j) h = .ok (.bl (decide (j < i))) h := rfl
theorem ge_i (h : Hc) (i j : Int) : cmpop .ge (.int i) (.int j) h = .ok (.bl (decide (j ≤ i))) h := rfl
theorem lt_i (h : Hc) (i j : Int) : cmpop .lt (.int i) (.int j) h = .ok (.bl (decide (i < j))) h := rfl
theorem le_i (h : Hc) (i j : Int) : cmpop .le (.int i) (.int j) h = .ok (.bl (decide (i ≤ j))) h := rfl
theorem abs_i (h : Hc) (i : Int) : bi .abs [.int i] h = .ok (.int (if i < 0 then -i else i)) h := rfl
theorem trimmed_run {i : Nat} (e : fns i = some F_trimmed) (d n : Nat) (h : Hc) (xs : List Int) (hx : h[n]? = some (iZ xs)) (cl : ClH h) (hw : xs.length < w) : run fns sub w (d + 1) i [.ref n] h = .ok (tZ (trimZ xs)) h := by
  have loop : ∀ (k f : Nat), k ≤ xs.length → k < f →
      whileF (T.ev (run fns sub w d) sub w none T_trimmed_1) (Ss.ev (run fns sub w d) sub w L_trimmed_2 none) f [some (.ref n), some (.int k)] h = .nx [some (.ref n), some (.int (tl xs k))] h := by
    intro k
    induction k with
    | zero =>
      intro f _ hf
      match f, hf with
      | f + 1, _ => exact while_end (h1 := h) (by simp [T_trimmed_1, Ss.ev, S.ev, Hs.ev, E.ev, Es.ev, T.ev, Pt.put, Pts.put, Pts.len, Es.len, Oe.ev, It.ev, bind_ok, bind_err, bind_bad, th_ok, th_err, th_bad, nxth, retth, errth, badth, noerr_ok, fin_nx, fin_ret, fin_err, tidy_same, tidyX_same, List.getElem?_cons_zero, List.getElem?_cons_succ, List.set_cons_zero, List.set_cons_succ, truth_int])
    | succ k ih =>
      intro f hk hf
      match f, hf with
      | f + 1, hf =>
        have it : item (.ref n) (.int (k : Int)) h = .ok (.int (gI xs k)) h := item_iZ k (seq_ref hx) (by omega)
        have e1 : ((k + 1 : Nat) : Int) - 1 = (k : Int) := by omega
        have e2 : ¬ ((k : Int) + 1 = 0) := by omega
        by_cases z : gI xs k = 0
        · rw [while_go (sl2 := [some (.ref n), some (.int k)]) (h1 := h) (h2 := h) (by simp [T_trimmed_1, Ss.ev, S.ev, Hs.ev, E.ev, Es.ev, T.ev, Pt.put, Pts.put, Pts.len, Es.len, Oe.ev, It.ev, bind_ok, bind_err, bind_bad, th_ok, th_err, th_bad, nxth, retth, errth, badth, noerr_ok, fin_nx, fin_ret, fin_err, tidy_same, tidyX_same, List.getElem?_cons_zero, List.getElem?_cons_succ, List.set_cons_zero, List.set_cons_succ, truth_int, e2, sub_int, it, eq_int, z]) (by simp [L_trimmed_2, Ss.ev, S.ev, Hs.ev, E.ev, Es.ev, T.ev, Pt.put, Pts.put, Pts.len, Es.len, Oe.ev, It.ev, bind_ok, bind_err, bind_bad, th_ok, th_err, th_bad, nxth, retth, errth, badth, noerr_ok, fin_nx, fin_ret, fin_err, tidy_same, tidyX_same, List.getElem?_cons_zero, List.getElem?_cons_succ, List.set_cons_zero, List.set_cons_succ, aug_sub]), ih f (by omega) (by omega)]
          rw [tl, if_pos z]
        · rw [while_end (h1 := h) (by simp [T_trimmed_1, Ss.ev, S.ev, Hs.ev, E.ev, Es.ev, T.ev, Pt.put, Pts.put, Pts.len, Es.len, Oe.ev, It.ev, bind_ok, bind_err, bind_bad, th_ok, th_err, th_bad, nxth, retth, errth, badth, noerr_ok, fin_nx, fin_ret, fin_err, tidy_same, tidyX_same, List.getElem?_cons_zero, List.getElem?_cons_succ, List.set_cons_zero, List.set_cons_succ, truth_int, e2, sub_int, it, eq_int, z])]
          rw [tl, if_neg z]
  rw [un e d _ _ rfl (of_decide_eq_true rfl)]
  have le := tl_le xs xs.length
  have lp := loop xs.length w (Nat.le_refl _) hw
  have cu : cutC (iZ xs) none (some ((tl xs xs.length : Nat) : Int)) = iZ (trimZ xs) := by
    rw [cut_to _ _ (by rw [iZ_len]; exact le), iZ_take]; rfl
  simp only [F_trimmed, Ss.ev, S.ev, Hs.ev, E.ev, Es.ev, T.ev, Pt.put, Pts.put, Pts.len, Es.len, Oe.ev, It.ev, bind_ok, bind_err, bind_bad, th_ok, th_err, th_bad, nxth, retth, errth, badth, noerr_ok, fin_nx, fin_ret, fin_err, tidy_same, tidyX_same, List.getElem?_cons_zero, List.getElem?_cons_succ, List.set_cons_zero, List.set_cons_succ, List.map_cons, List.map_nil, List.replicate, List.cons_append, List.nil_append, len_refI hx, Nat.reduceSub]
  rw [lp]
  simp only [Ss.ev, S.ev, Hs.ev, E.ev, Es.ev, T.ev, Pt.put, Pts.put, Pts.len, Es.len, Oe.ev, It.ev, bind_ok, bind_err, bind_bad, th_ok, th_err, th_bad, nxth, retth, errth, badth, noerr_ok, fin_nx, fin_ret, fin_err, tidy_same, tidyX_same, List.getElem?_cons_zero, List.getElem?_cons_succ, List.set_cons_zero, List.set_cons_succ, slice_ref hx, cu, tuple_ref (last_get h _)]
  exact tidy_cl cl _ _ (iZ_unders _ _)

/-! ### polynomials -/
def okN : C → Bool
  | .int i => decide (i.natAbs ≤ 1000000)
  | _ => false
def lastOk (cs : List C) : Bool := match cs[cs.length - 1]? with
  | some (.int i) => i != 0
  | _ => true
def isPoly : C → Bool
  | .tup cs => decide (cs.length ≤ 13) && (cs.all okN && lastOk cs)
  | _ => false
theorem at_treC (cs : List C) (i : Nat) (h : Hc) : (ItV.tre cs).at_ i h = if i < cs.length then some (some (gC cs i)) else some none := by
  rw [at_tre]
  by_cases z : i < cs.length
  · rw [if_pos z, gC_of z]
  · rw [if_neg z, List.getElem?_eq_none (by omega)]
theorem len_tup' (h : Hc) (xs : List C) : bi .len [.tup xs] h = .ok (.int xs.length) h := rfl
theorem all_getD {cs : List C} {p : C → Bool} : cs.all p = true ↔ ∀ j, j < cs.length → p (gC cs j) = true := by
  rw [List.all_eq_true]
  constructor
  · intro h j hj
    have : gC cs j = cs[j] := by simp [gC, List.getD, hj]
    rw [this]
    exact h _ (List.getElem_mem hj)
  · intro h x hx
    obtain ⟨j, hj, rfl⟩ := List.getElem_of_mem hx
    have := h j hj
    rwa [show gC cs j = cs[j] by simp [gC, List.getD, hj]] at this
theorem is_polynomial_run {i j : Nat} (e : fns i = some (F_is_polynomial j)) (e1 : fns j = some F_is_integer) (hw : 1000 < w) (d : Nat) (h : Hc) (x : C) : run fns sub w (d + 2) i [x] h = .ok (.bl (isPoly x)) h := by
  rw [un e _ _ _ rfl (of_decide_eq_true rfl)]
  have ri := fun y => is_integer_run (sub := sub) (w := w) e1 d h y
  cases x
  case tup cs =>
    by_cases hl : cs.length ≤ 13
    · have l1 : decide (((13 : Nat) : Int) < (cs.length : Int)) = false := by simp; omega
      have loop := forF_ret (it := .tre cs) (n := cs.length) (el := fun i => gC cs i) (g := Pt.put (run fns sub w (d + 1)) sub w none P_is_polynomial_1) (b := Ss.ev (run fns sub w (d + 1)) sub w (L_is_polynomial_2 j) none)
        (fun i sl h' => h' = h ∧ (∃ y, sl = [some (.tup cs), y]) ∧ ∀ k, k < i → okN (gC cs k) = true) (fun i c h' => h' = h ∧ c = .bl false ∧ okN (gC cs i) = false) (fun i sl h' _ _ => at_treC cs i h')
        (fun i sl h' ⟨a1, ⟨y, a2⟩, a3⟩ hi => by
          subst a1 a2
          refine ⟨[some (.tup cs), some (gC cs i)], h', by simp [P_is_polynomial_1, Ss.ev, S.ev, Hs.ev, E.ev, Es.ev, T.ev, Pt.put, Pts.put, Pts.len, Es.len, Oe.ev, It.ev, bind_ok, bind_err, bind_bad, th_ok, th_err, th_bad, nxth, retth, errth, badth, noerr_ok, fin_nx, fin_ret, fin_err, tidy_same, tidyX_same, List.getElem?_cons_zero, List.getElem?_cons_succ, List.set_cons_zero, List.set_cons_succ], ?_⟩
          cases z : okN (gC cs i)
          · refine .inr ⟨.bl false, h', ?_, rfl, rfl, rfl⟩
            cases hc : gC cs i
            case int v =>
              rw [hc] at z
              have z1 : 1000000 < (if v < 0 then -v else v) := by
                have := of_decide_eq_false z
                split <;> omega
              simp [L_is_polynomial_2, Ss.ev, S.ev, Hs.ev, E.ev, Es.ev, T.ev, Pt.put, Pts.put, Pts.len, Es.len, Oe.ev, It.ev, bind_ok, bind_err, bind_bad, th_ok, th_err, th_bad, nxth, retth, errth, badth, noerr_ok, fin_nx, fin_ret, fin_err, tidy_same, tidyX_same, List.getElem?_cons_zero, List.getElem?_cons_succ, List.set_cons_zero, List.set_cons_succ, ri, isI, truth_b, abs_i, gt_i, z1]
            all_goals simp [L_is_polynomial_2, Ss.ev, S.ev, Hs.ev, E.ev, Es.ev, T.ev, Pt.put, Pts.put, Pts.len, Es.len, Oe.ev, It.ev, bind_ok, bind_err, bind_bad, th_ok, th_err, th_bad, nxth, retth, errth, badth, noerr_ok, fin_nx, fin_ret, fin_err, tidy_same, tidyX_same, List.getElem?_cons_zero, List.getElem?_cons_succ, List.set_cons_zero, List.set_cons_succ, ri, isI, truth_b]
          · refine .inl ⟨[some (.tup cs), some (gC cs i)], h', .inl ?_, rfl, ⟨_, rfl⟩, fun k hk => ?_⟩
            · cases hc : gC cs i
              case int v =>
                rw [hc] at z
                have z1 : ¬ 1000000 < (if v < 0 then -v else v) := by
                  have := of_decide_eq_true z
                  split <;> omega
                simp [L_is_polynomial_2, Ss.ev, S.ev, Hs.ev, E.ev, Es.ev, T.ev, Pt.put, Pts.put, Pts.len, Es.len, Oe.ev, It.ev, bind_ok, bind_err, bind_bad, th_ok, th_err, th_bad, nxth, retth, errth, badth, noerr_ok, fin_nx, fin_ret, fin_err, tidy_same, tidyX_same, List.getElem?_cons_zero, List.getElem?_cons_succ, List.set_cons_zero, List.set_cons_succ, ri, isI, truth_b, abs_i, gt_i, z1]
              all_goals (rw [hc] at z; cases z)
            · by_cases hk' : k = i
              · rw [hk']; exact z
              · exact a3 k (by omega)) w 0 [some (.tup cs), none] h ⟨rfl, ⟨_, rfl⟩, fun k hk => absurd hk (by omega)⟩ (Nat.zero_le _) (by omega)
      rcases loop with ⟨sl', h', l2, rfl, ⟨y, rfl⟩, l3⟩ | ⟨k, c, h', _, l4, l5, rfl, rfl, l6⟩
      · have al : cs.all okN = true := all_getD.mpr l3
        by_cases hz : cs.length = 0
        · have : cs = [] := List.eq_nil_of_length_eq_zero hz
          subst this
          simp [F_is_polynomial, Ss.ev, S.ev, Hs.ev, E.ev, Es.ev, T.ev, Pt.put, Pts.put, Pts.len, Es.len, Oe.ev, It.ev, bind_ok, bind_err, bind_bad, th_ok, th_err, th_bad, nxth, retth, errth, badth, noerr_ok, fin_nx, fin_ret, fin_err, tidy_same, tidyX_same, List.getElem?_cons_zero, List.getElem?_cons_succ, List.set_cons_zero, List.set_cons_succ, isiC, isiT, tyC, truth_b, len_tup', gt_i, l2, eq_int]
          rfl
        · have l7 := l3 (cs.length - 1) (by omega)
          have l8 : cs[cs.length - 1]? = some (gC cs (cs.length - 1)) := gC_of (by omega)
          cases hc : gC cs (cs.length - 1)
          case int v =>
            have it : item (.tup cs) (.int (-1)) h' = .ok (.int v) h' := item_of (xs := cs) (j := cs.length - 1) rfl (ix_last _ (by omega)) (by rw [l8, hc])
            have r1 : isPoly (.tup cs) = (v != 0) := by
              show (decide (cs.length ≤ 13) && (cs.all okN && lastOk cs)) = _
              unfold lastOk
              rw [al, l8, hc, decide_eq_true hl]
              rfl
            have hz' : ((cs.length : Int) == 0) = false := by rw [beq_eq_false_iff_ne]; omega
            have : ¬ (13 : Int) < (cs.length : Int) := by omega
            simp [F_is_polynomial, Ss.ev, S.ev, Hs.ev, E.ev, Es.ev, T.ev, Pt.put, Pts.put, Pts.len, Es.len, Oe.ev, It.ev, bind_ok, bind_err, bind_bad, th_ok, th_err, th_bad, nxth, retth, errth, badth, noerr_ok, fin_nx, fin_ret, fin_err, tidy_same, tidyX_same, List.getElem?_cons_zero, List.getElem?_cons_succ, List.set_cons_zero, List.set_cons_succ, isiC, isiT, tyC, truth_b, len_tup', gt_i, this, l2, eq_int, hz', it, ne_int, r1]
            simp only [bne, Bool.not_not]
          all_goals (rw [hc] at l7; cases l7)
      · have al : cs.all okN = false := by
          cases hq : cs.all okN
          · rfl
          · have := all_getD.mp hq k l4
            rw [l6] at this; cases this
        have r1 : isPoly (.tup cs) = false := by
          show (decide (cs.length ≤ 13) && (cs.all okN && lastOk cs)) = _
          rw [al]; simp
        have : ¬ (13 : Int) < (cs.length : Int) := by omega
        simp [F_is_polynomial, Ss.ev, S.ev, Hs.ev, E.ev, Es.ev, T.ev, Pt.put, Pts.put, Pts.len, Es.len, Oe.ev, It.ev, bind_ok, bind_err, bind_bad, th_ok, th_err, th_bad, nxth, retth, errth, badth, noerr_ok, fin_nx, fin_ret, fin_err, tidy_same, tidyX_same, List.getElem?_cons_zero, List.getElem?_cons_succ, List.set_cons_zero, List.set_cons_succ, isiC, isiT, tyC, truth_b, len_tup', gt_i, this, l5, r1]
    · have r1 : isPoly (.tup cs) = false := by
        show (decide (cs.length ≤ 13) && (cs.all okN && lastOk cs)) = _
        rw [decide_eq_false hl]; rfl
      have : (13 : Int) < (cs.length : Int) := by omega
      simp [F_is_polynomial, Ss.ev, S.ev, Hs.ev, E.ev, Es.ev, T.ev, Pt.put, Pts.put, Pts.len, Es.len, Oe.ev, It.ev, bind_ok, bind_err, bind_bad, th_ok, th_err, th_bad, nxth, retth, errth, badth, noerr_ok, fin_nx, fin_ret, fin_err, tidy_same, tidyX_same, List.getElem?_cons_zero, List.getElem?_cons_succ, List.set_cons_zero, List.set_cons_succ, isiC, isiT, tyC, truth_b, len_tup', gt_i, this, r1]
  all_goals simp [F_is_polynomial, Ss.ev, S.ev, Hs.ev, E.ev, Es.ev, T.ev, Pt.put, Pts.put, Pts.len, Es.len, Oe.ev, It.ev, bind_ok, bind_err, bind_bad, th_ok, th_err, th_bad, nxth, retth, errth, badth, noerr_ok, fin_nx, fin_ret, fin_err, tidy_same, tidyX_same, List.getElem?_cons_zero, List.getElem?_cons_succ, List.set_cons_zero, List.set_cons_succ, isiC, isiT, tyC, truth_b, isPoly]
theorem check_polynomial_run {i j k x0 : Nat} (e : fns i = some (F_check_polynomial j x0)) (e1 : fns j = some (F_is_polynomial k)) (e2 : fns k = some F_is_integer) (hw : 1000 < w) (d : Nat) (h : Hc) (x : C) : run fns sub w (d + 3) i [x] h = if isPoly x then .ok .non h else .err x0 [x] h := by
  rw [un e _ _ _ rfl (of_decide_eq_true rfl)]
  cases z : isPoly x <;> simp [F_check_polynomial, Ss.ev, S.ev, Hs.ev, E.ev, Es.ev, T.ev, Pt.put, Pts.put, Pts.len, Es.len, Oe.ev, It.ev, bind_ok, bind_err, bind_bad, th_ok, th_err, th_bad, nxth, retth, errth, badth, noerr_ok, fin_nx, fin_ret, fin_err, tidy_same, tidyX_same, List.getElem?_cons_zero, List.getElem?_cons_succ, List.set_cons_zero, List.set_cons_succ, is_polynomial_run e1 e2 hw, truth_b, z]
end
end Sh
set_option linter.all false
set_option autoImplicit false
set_option maxRecDepth 100000
set_option maxHeartbeats 4000000
/-! Sh, part V: division of rows. -/
namespace Sh
open PySem
/-- what two rows, multiplied, have at a power -/
def cv : List Int → (Nat → Int) → Nat → Int
  | [], _, _ => 0
  | x :: xs, o, k => x * o k + (if k = 0 then 0 else cv xs o (k - 1))
/-- led by a power -/
def shf (s : Nat) (f : Nat → Int) (k : Nat) : Int := if k < s then 0 else f (k - s)
theorem gI_range {n : Nat} (f : Nat → Int) (k : Nat) : gI ((List.range n).map f) k = if k < n then f k else 0 := by
  unfold gI
  rw [List.getD_eq_getElem?_getD, List.getElem?_map]
  by_cases h : k < n
  · rw [if_pos h, List.getElem?_range h]; rfl
  · rw [if_neg h, List.getElem?_eq_none (by simpa using h)]; rfl
theorem set_range {n i : Nat} (f : Nat → Int) (v : Int) : ((List.range n).map f).set i v = (List.range n).map fun k => if k = i then v else f k := by
  refine ext_of (by simp) fun j => ?_
  rw [gI_range]
  unfold gI
  rw [List.getD_eq_getElem?_getD, List.getElem?_set]
  by_cases h : i = j
  · subst h
    simp only [if_true, List.length_map, List.length_range]
    by_cases hi : i < n
    · simp [hi]
    · simp [hi]
  · rw [if_neg h, if_neg (fun z : j = i => h z.symm), List.getElem?_map]
    by_cases hj : j < n
    · rw [if_pos hj, List.getElem?_range hj]; rfl
    · rw [if_neg hj, List.getElem?_eq_none (by simpa using hj)]; rfl
theorem row_eq (xs : List Int) : xs = (List.range xs.length).map (gI xs) := ext_of (by simp) fun j => by
  rw [gI_range]
  split
  · rfl
  · exact getD_big (by omega)
theorem gI_dl (xs : List Int) (k : Nat) : gI xs.dropLast k = if k < xs.length - 1 then gI xs k else 0 := by
  rw [List.dropLast_eq_take, getD_take]
theorem dl_len (xs : List Int) : xs.dropLast.length = xs.length - 1 := by simp
theorem gI_app (xs ys : List Int) (k : Nat) : gI (xs ++ ys) k = if k < xs.length then gI xs k else gI ys (k - xs.length) := by
  unfold gI
  rw [List.getD_eq_getElem?_getD, List.getElem?_append]
  split <;> rfl
theorem gI_one (x : Int) (k : Nat) : gI [x] k = if k = 0 then x else 0 := by
  cases k with
  | zero => rfl
  | succ k => rfl
theorem gI_mem {xs : List Int} {P : Int → Prop} (h : ∀ x ∈ xs, P x) (h0 : P 0) (k : Nat) : P (gI xs k) := by
  by_cases hk : k < xs.length
  · have := gI_of hk
    exact h _ (List.mem_of_getElem? this)
  · rw [getD_big (by omega)]; exact h0
theorem bd0 (b : Nat) : Bd b 0 := Nat.pow_pos (by decide)
theorem ss_cons (call : Nat → List C → Hc → R C) (sub : Nat → Str → Option Bool) (w : Nat) (s : S) (ss : Ss) (cx : Option (Nat × List C)) (sl : Sl) (h : Hc) : Ss.ev call sub w (.cons s ss) cx sl h = (S.ev call sub w s cx sl h).th fun sl1 h1 => Ss.ev call sub w ss cx sl1 h1 := rfl
theorem ss_nil (call : Nat → List C → Hc → R C) (sub : Nat → Str → Option Bool) (w : Nat) (cx : Option (Nat × List C)) (sl : Sl) (h : Hc) : Ss.ev call sub w .nil cx sl h = .nx sl h := rfl
theorem it_rng1 {call : Nat → List C → Hc → R C} {sub : Nat → Str → Option Bool} {w : Nat} {cx : Option (Nat × List C)} {a : E} {sl : Sl} {h h1 : Hc} {n : Nat} (e : E.ev call sub w cx a sl h = .ok (.int (n : Int)) h1) (hn : n < 100000) : It.ev call sub w cx (.rng1 a) sl h = .ok (.rng 0 n) h1 := by
  unfold It.ev
  rw [e, bind_ok]
  dsimp only
  split
  · rw [Int.toNat_natCast]
  · omega
theorem item_pop {fns : Nat → Option Fn} {sub : Nat → Str → Option Bool} {w d : Nat} {sl : Sl} {h : Hc} {i n : Nat} {xs : List Int} (e : sl[i]? = some (some (.ref n))) (hx : h[n]? = some (iZ xs)) (hl : 0 < xs.length) :
    E.ev (run fns sub w d) sub w none (.pop (.var i)) sl h = .ok (.int (gI xs (xs.length - 1))) (h.set n (iZ xs.dropLast)) := by
  have e2 : (iZ xs)[(iZ xs).length - 1]? = some (.int (gI xs (xs.length - 1))) := by rw [iZ_len, iZ_get, gI_of (by omega)]; rfl
  simp only [E.ev, e, bind_ok, hx, e2, iZ_dl]
theorem app_ev {fns : Nat → Option Fn} {sub : Nat → Str → Option Bool} {w d : Nat} {sl : Sl} {h : Hc} {i j n : Nat} {xs : List Int} {x : Int} (e : sl[i]? = some (some (.ref n))) (e1 : sl[j]? = some (some (.int x))) (hx : h[n]? = some (iZ xs)) (hl : xs.length < 100000) :
    S.ev (run fns sub w d) sub w (.app (.var i) (.var j)) none sl h = .nx sl (h.set n (iZ (xs ++ [x]))) := by
  simp only [S.ev, E.ev, e, e1, th_ok, hx]
  rw [iZ_len, if_pos (Nat.lt_trans hl (by decide)), iZ_app]
  rfl
theorem cv_snoc (t : Int) (Q : List Int) (o : Nat → Int) (k : Nat) : cv (t :: Q) o k = t * o k + shf 1 (cv Q o) k := by
  show t * o k + (if k = 0 then 0 else cv Q o (k - 1)) = _
  unfold shf
  by_cases h : k = 0
  · rw [if_pos h, if_pos (by omega)]
  · rw [if_neg h, if_neg (by omega)]
theorem tz_emp (q : List Int) : (tZ q).nr = true := iZ_nr q
section
variable {fns : Nat → Option Fn} {sub : Nat → Str → Option Bool} {w : Nat}
theorem app_int {h : Hc} {n : Nat} {xs : List Int} (e : h[n]? = some (iZ xs)) (hl : xs.length < 100000) (x : Int) : (match h[n]? with
      | some ys => if ys.length < lineN then (RS'.nx ([] : Sl) (h.set n (ys ++ [.int x]))) else .bad
      | none => .bad) = RS'.nx [] (h.set n (iZ (xs ++ [x]))) := by
  rw [e]
  show (if (iZ xs).length < lineN then (RS'.nx ([] : Sl) (h.set n (iZ xs ++ [.int x]))) else .bad) = _
  rw [iZ_len, if_pos (Nat.lt_trans hl (by decide)), iZ_app]
  rfl
theorem shf_step (s k : Nat) (t : Int) (Q : List Int) (o : Nat → Int) : shf s (cv (t :: Q) o) k = shf (s + 1) (cv Q o) k + (if s ≤ k then t * o (k - s) else 0) := by
  unfold shf
  by_cases q1 : k < s
  · rw [if_pos q1, if_pos (show k < s + 1 by omega), if_neg (show ¬ s ≤ k by omega)]; rfl
  · rw [if_neg q1, if_pos (show s ≤ k by omega), cv_snoc]
    unfold shf
    by_cases q2 : k = s
    · rw [if_pos (show k - s < 1 by omega), if_pos (show k < s + 1 by omega)]; omega
    · rw [if_neg (show ¬ k - s < 1 by omega), if_neg (show ¬ k < s + 1 by omega), show k - s - 1 = k - (s + 1) by omega, Int.add_comm]
/-- a monic row's numbers -/
def moI (lows : List Int) (k : Nat) : Int := if k < lows.length then gI lows k else if k = lows.length then 1 else 0
theorem gI_monic (lows : List Int) (k : Nat) : gI (lows ++ [1]) k = moI lows k := by
  unfold moI
  rw [gI_app, gI_one]
  split
  · rfl
  · by_cases hk : k = lows.length
    · rw [if_pos hk, if_pos (by omega)]
    · rw [if_neg hk, if_neg (by omega)]
/-- one step of a division: s is where the other one's numbers are taken off, j of them so far -/
def stepL (r lows : List Int) (t : Int) (n s j : Nat) : List Int := (List.range n).map fun k => gI r k - (if s ≤ k ∧ k < s + j then t * gI lows (k - s) else 0)
theorem stepL_len (r lows : List Int) (t : Int) (n s j : Nat) : (stepL r lows t n s j).length = n := by simp [stepL]
theorem stepL_get (r lows : List Int) (t : Int) (n s j k : Nat) : gI (stepL r lows t n s j) k = if k < n then gI r k - (if s ≤ k ∧ k < s + j then t * gI lows (k - s) else 0) else 0 := gI_range _ _
theorem stepL_zero (r lows : List Int) (t : Int) (s : Nat) : stepL r lows t r.length s 0 = r := ext_of (by rw [stepL_len]) fun k => by
  rw [stepL_get, if_neg (show ¬ (s ≤ k ∧ k < s + 0) by omega)]
  split
  · omega
  · exact (getD_big (by omega)).symm
theorem stepL_set (r lows : List Int) (t : Int) (n s j : Nat) (h : s + j < n) : (stepL r lows t n s j).set (s + j) (gI r (s + j) - t * gI lows j) = stepL r lows t n s (j + 1) := by
  unfold stepL
  rw [set_range]
  refine List.map_congr_left fun k hk => ?_
  by_cases hkj : k = s + j
  · rw [if_pos hkj, hkj, if_pos (show s ≤ s + j ∧ s + j < s + (j + 1) by omega), show s + j - s = j by omega]
  · rw [if_neg hkj]
    by_cases hc : s ≤ k ∧ k < s + j
    · rw [if_pos hc, if_pos (show s ≤ k ∧ k < s + (j + 1) from ⟨hc.1, by omega⟩)]
    · rw [if_neg hc, if_neg (fun z : s ≤ k ∧ k < s + (j + 1) => hc ⟨z.1, by omega⟩)]
theorem stepL_at (r lows : List Int) (t : Int) (n s j : Nat) (h : s + j < n) : gI (stepL r lows t n s j) (s + j) = gI r (s + j) := by
  rw [stepL_get, if_pos h, if_neg (show ¬ (s ≤ s + j ∧ s + j < s + j) by omega)]; omega
/-- what a step takes off -/
theorem step_coef (r lows : List Int) (s : Nat) (hs : r.length = s + 1 + lows.length) (k : Nat) :
    gI r k = gI (stepL r.dropLast lows (gI r (r.length - 1)) (r.length - 1) s lows.length) k + (if s ≤ k then gI r (r.length - 1) * moI lows (k - s) else 0) := by
  rw [stepL_get]
  unfold moI
  by_cases q1 : k < r.length - 1
  · rw [if_pos q1, gI_dl, if_pos q1]
    by_cases q2 : s ≤ k
    · rw [if_pos (show s ≤ k ∧ k < s + lows.length by omega), if_pos q2, if_pos (show k - s < lows.length by omega)]; omega
    · rw [if_neg (fun z : s ≤ k ∧ k < s + lows.length => q2 z.1), if_neg q2]; omega
  · rw [if_neg q1, if_pos (show s ≤ k by omega), if_neg (show ¬ k - s < lows.length by omega)]
    by_cases q3 : k = r.length - 1
    · rw [if_pos (show k - s = lows.length by omega), q3]; omega
    · rw [if_neg (show ¬ k - s = lows.length by omega), getD_big (show r.length ≤ k by omega)]; omega
theorem step_bd {r lows : List Int} {B : Nat} (br : ∀ x ∈ r, Bd B x) (bl : ∀ x ∈ lows, Bd 5 x) (t : Int) (ht : Bd B t) (n s j : Nat) : ∀ x ∈ stepL r.dropLast lows t n s j, Bd (B + 6) x := by
  intro x hx
  obtain ⟨k, hk⟩ := List.getElem?_of_mem hx
  have hk2 := (List.getElem?_eq_some_iff.mp hk).1
  rw [gI_of hk2] at hk
  cases hk
  rw [stepL_get]
  split
  · have b1 : Bd (B + 5) (gI r.dropLast k) := (gI_mem (P := Bd B) (fun x hx => br x (List.dropLast_subset _ hx)) (bd0 _) k).mono (by omega)
    have b2 : Bd (B + 5) (if s ≤ k ∧ k < s + j then t * gI lows (k - s) else 0) := by
      split
      · exact ht.mul (gI_mem (P := Bd 5) bl (bd0 _) _)
      · exact bd0 _
    exact b1.sub b2
  · exact bd0 _
def stD (W lows : List Int) (n : Nat) (x4 x5 x6 : Option C) : Sl := [some (tZ W), some (tZ (lows ++ [1])), some (.ref n), some (.ref (n + 1)), x4, x5, x6]
def hpD (h : Hc) (r q : List Int) : Hc := h ++ [iZ r, iZ q]
section
variable {fns : Nat → Option Fn} {sub : Nat → Str → Option Bool} {w : Nat} {h : Hc}
theorem hpD0 (r q : List Int) : (hpD h r q)[h.length]? = some (iZ r) := by simp [hpD]
theorem hpD1 (r q : List Int) : (hpD h r q)[h.length + 1]? = some (iZ q) := by simp [hpD]
theorem hpS0 (r q r' : List Int) : (hpD h r q).set h.length (iZ r') = hpD h r' q := by simp [hpD]
theorem hpS1 (r q q' : List Int) : (hpD h r q).set (h.length + 1) (iZ q') = hpD h r q' := by simp [hpD, List.set_append]
theorem div_inner (d : Nat) (W lows : List Int) (hl : lows.length ≤ 30) (hw : 1000 < w) (bl : ∀ x ∈ lows, Bd 5 x) (r q : List Int) (t : Int) (s : Nat) (x6 : Option C) (hn : r.length = s + lows.length) (bt : Bd 400 t) :
    ∃ x6', forF (.rng 0 lows.length) (Pt.put (run fns sub w d) sub w none P_divided_2) (Ss.ev (run fns sub w d) sub w L_divided_3 none) w 0 (stD W lows h.length (some (.int t)) (some (.int (s : Int))) x6) (hpD h r q)
        = .nx (stD W lows h.length (some (.int t)) (some (.int (s : Int))) x6') (hpD h (stepL r lows t r.length s lows.length) q) := by
  obtain ⟨sl', h', l1, ⟨x6', l2⟩, l3⟩ := forF_gen (it := .rng 0 lows.length) (n := lows.length) (el := fun i => .int (0 + (i : Int))) (g := Pt.put (run fns sub w d) sub w none P_divided_2) (b := Ss.ev (run fns sub w d) sub w L_divided_3 none)
      (fun j sl h' => (∃ x6, sl = stD W lows h.length (some (.int t)) (some (.int (s : Int))) x6) ∧ h' = hpD h (stepL r lows t r.length s j) q)
      (fun _ _ _ _ _ => rfl) (fun j sl h' ⟨⟨x6, a1⟩, a2⟩ hj => by
        subst a1 a2
        have e0 : (s : Int) + (0 + (j : Int)) = ((s + j : Nat) : Int) := by omega
        have i1 : item (.ref h.length) (.int ((s + j : Nat) : Int)) (hpD h (stepL r lows t r.length s j) q) = .ok (.int (gI r (s + j))) (hpD h (stepL r lows t r.length s j) q) := by
          rw [item_iZ (s + j) (seq_ref (hpD0 _ _)) (by rw [stepL_len]; omega), stepL_at _ _ _ _ _ _ (by omega)]
        have i2 : item (tZ (lows ++ [1])) (.int (0 + (j : Int))) (hpD h (stepL r lows t r.length s j) q) = .ok (.int (gI lows j)) (hpD h (stepL r lows t r.length s j) q) := by
          rw [item_iZI j (seq_tZ _ _) (by omega) (by simp; omega), gI_monic]
          unfold moI
          rw [if_pos hj]
        have m1 := mul_of (i := t) (j := gI lows j) bt (gI_mem (P := Bd 5) bl (bd0 _) j) (by decide) (by decide)
        have se : setitem (.ref h.length) (.int ((s + j : Nat) : Int)) (.int (gI r (s + j) - t * gI lows j)) (hpD h (stepL r lows t r.length s j) q) = .ok () (hpD h (stepL r lows t r.length s (j + 1)) q) := by
          rw [setitem_iZ (hpD0 _ _) (by rw [stepL_len]; omega), hpS0, stepL_set _ _ _ _ _ _ (by omega)]
        refine ⟨stD W lows h.length (some (.int t)) (some (.int (s : Int))) (some (.int (0 + (j : Int)))), hpD h (stepL r lows t r.length s j) q, stD W lows h.length (some (.int t)) (some (.int (s : Int))) (some (.int (0 + (j : Int)))), hpD h (stepL r lows t r.length s (j + 1)) q, rfl, .inl ?_, ⟨⟨_, rfl⟩, rfl⟩⟩
        simp only [L_divided_3, stD, Ss.ev, S.ev, Hs.ev, E.ev, Es.ev, T.ev, Pt.put, Pts.put, Pts.len, Es.len, Oe.ev, It.ev, bind_ok, bind_err, bind_bad, th_ok, th_err, th_bad, nxth, retth, errth, badth, noerr_ok, fin_nx, fin_ret, fin_err, tidy_same, tidyX_same, List.getElem?_cons_zero, List.getElem?_cons_succ, List.set_cons_zero, List.set_cons_succ, add_int, e0, i1, i2, bin_mul', m1, aug_sub, se]) w 0 (stD W lows h.length (some (.int t)) (some (.int (s : Int))) x6) (hpD h r q) ⟨⟨_, rfl⟩, by rw [stepL_zero]⟩ (Nat.zero_le _) (by omega)
  exact ⟨x6', by rw [l1, l2, l3]⟩
structure DInv (W lows : List Int) (b : Nat) (r q : List Int) : Prop where
  l : q.length + (r.length - lows.length) = W.length - lows.length
  m : q = [] ∨ lows.length ≤ r.length
  eq : ∀ k, gI W k = shf (r.length - lows.length) (cv q.reverse (moI lows)) k + gI r k
  rb : ∀ x ∈ r, Bd (b + 6 * q.length) x
  qb : ∀ x ∈ q, Bd (b + 6 * q.length) x
  le : r.length ≤ W.length
theorem DInv.step {W lows r q : List Int} {b s : Nat} (i : DInv W lows b r q) (hs : r.length = s + 1 + lows.length) (bl : ∀ x ∈ lows, Bd 5 x) :
    DInv W lows b (stepL r.dropLast lows (gI r (r.length - 1)) (r.length - 1) s lows.length) (q ++ [gI r (r.length - 1)]) := by
  have ht : Bd (b + 6 * q.length) (gI r (r.length - 1)) := gI_mem (P := Bd _) i.rb (bd0 _) _
  have lq : (q ++ [gI r (r.length - 1)]).length = q.length + 1 := by simp
  have l1 := i.l
  have l2 := i.le
  refine ⟨by rw [lq, stepL_len]; omega, .inr (by rw [stepL_len]; omega), fun k => ?_, fun x hx => ?_, fun x hx => ?_, by rw [stepL_len]; omega⟩
  · rw [List.reverse_append, i.eq k, stepL_len]
    show _ = shf (r.length - 1 - lows.length) (cv (gI r (r.length - 1) :: q.reverse) (moI lows)) k + _
    rw [show r.length - 1 - lows.length = s by omega, show r.length - lows.length = s + 1 by omega, shf_step, step_coef r lows s hs k]
    omega
  · rw [lq]
    exact (step_bd i.rb bl _ ht _ _ _ x hx).mono (by omega)
  · rw [lq]
    rcases List.mem_append.mp hx with z | z
    · exact (i.qb x z).mono (by omega)
    · have : x = gI r (r.length - 1) := by simpa using z
      rw [this]
      exact ht.mono (by omega)
theorem div_go (d : Nat) (W lows : List Int) (b : Nat) (hW : W.length ≤ 30) (hl : lows.length ≤ 30) (hb : b ≤ 100) (hw : 1000 < w) (bl : ∀ x ∈ lows, Bd 5 x) : ∀ (f : Nat) (r q : List Int) (y4 y5 y6 : Option C), DInv W lows b r q → r.length < f →
      ∃ r' q' x4 x5 x6, whileF (T.ev (run fns sub w d) sub w none T_divided_1) (Ss.ev (run fns sub w d) sub w L_divided_4 none) f (stD W lows h.length y4 y5 y6) (hpD h r q) = .nx (stD W lows h.length x4 x5 x6) (hpD h r' q') ∧ DInv W lows b r' q' ∧ r'.length ≤ lows.length := by
  have ol : (lows ++ [1]).length = lows.length + 1 := by simp
  have lo : ∀ h', bi .len [tZ (lows ++ [1])] h' = .ok (.int ((lows.length : Int) + 1)) h' := fun h' => by rw [len_tZ, ol]; rfl
  intro f
  induction f with
  | zero => intro r q y4 y5 y6 _ hf; omega
  | succ f ih =>
    intro r q y4 y5 y6 hi hf
    have lr : bi .len [.ref h.length] (hpD h r q) = .ok (.int r.length) (hpD h r q) := len_refI (hpD0 r q)
    by_cases hc : r.length ≤ lows.length
    · refine ⟨r, q, y4, y5, y6, while_end (h1 := hpD h r q) ?_, hi, hc⟩
      have : ¬ ((lows.length : Int) + 1 ≤ (r.length : Int)) := by omega
      simp only [T_divided_1, stD, Ss.ev, S.ev, Hs.ev, E.ev, Es.ev, T.ev, Pt.put, Pts.put, Pts.len, Es.len, Oe.ev, It.ev, bind_ok, bind_err, bind_bad, th_ok, th_err, th_bad, nxth, retth, errth, badth, noerr_ok, fin_nx, fin_ret, fin_err, tidy_same, tidyX_same, List.getElem?_cons_zero, List.getElem?_cons_succ, List.set_cons_zero, List.set_cons_succ, lr, lo, ge_i, this, decide_false]
    · obtain ⟨s, hs⟩ : ∃ s, r.length = s + 1 + lows.length := ⟨r.length - 1 - lows.length, by omega⟩
      have inew := hi.step hs bl
      have hle := hi.le
      have hll := hi.l
      have ht : Bd 400 (gI r (r.length - 1)) := (gI_mem (P := Bd _) hi.rb (bd0 _) _).mono (by omega)
      have dl : r.dropLast.length = s + lows.length := by rw [dl_len]; omega
      have dl' : r.length - 1 = r.dropLast.length := by rw [dl_len]
      have p1 := fun y4 y5 y6 => item_pop (fns := fns) (sub := sub) (w := w) (d := d) (sl := stD W lows h.length y4 y5 y6) (i := 2) (h := hpD h r q) rfl (hpD0 r q) (by omega)
      rw [hpS0] at p1
      generalize htt : gI r (r.length - 1) = t at ht inew p1
      obtain ⟨x6', il⟩ := div_inner (fns := fns) (sub := sub) (h := h) d W lows hl hw bl r.dropLast (q ++ [t]) t s y6 dl ht
      rw [dl'] at inew
      obtain ⟨r2, q2, x4, x5, x6, w1, w2, w3⟩ := ih _ (q ++ [t]) (some (.int t)) (some (.int (s : Int))) x6' inew (by rw [stepL_len]; omega)
      refine ⟨r2, q2, x4, x5, x6, ?_, w2, w3⟩
      rw [← w1]
      refine while_go (h1 := hpD h r q) ?_ ?_
      · have : (lows.length : Int) + 1 ≤ (r.length : Int) := by omega
        simp only [T_divided_1, stD, Ss.ev, S.ev, Hs.ev, E.ev, Es.ev, T.ev, Pt.put, Pts.put, Pts.len, Es.len, Oe.ev, It.ev, bind_ok, bind_err, bind_bad, th_ok, th_err, th_bad, nxth, retth, errth, badth, noerr_ok, fin_nx, fin_ret, fin_err, tidy_same, tidyX_same, List.getElem?_cons_zero, List.getElem?_cons_succ, List.set_cons_zero, List.set_cons_succ, lr, lo, ge_i, this, decide_true]
      · have p2 : item (tZ (lows ++ [1])) (.int (-1)) (hpD h r.dropLast q) = .ok (.int 1) (hpD h r.dropLast q) := by
          rw [item_last (seq_tZ _ _) (by omega), gI_monic, ol]
          unfold moI
          rw [if_neg (by omega), if_pos (by omega)]
        have p3 := fun (y5 y6 : Option C) => app_ev (fns := fns) (sub := sub) (w := w) (d := d) (sl := stD W lows h.length (some (.int t)) y5 y6) (i := 3) (j := 4) (h := hpD h r.dropLast q) rfl rfl (hpD1 r.dropLast q) (by omega)
        rw [hpS1] at p3
        have p4 : divC (.int t) (.int 1) (hpD h r.dropLast q) = .ok (.int t) (hpD h r.dropLast q) := by
          rw [div_of (b := 1) (by decide) (Nat.lt_of_sub_ne_zero (by decide)) (by decide), Int.fdiv_one]
        have lr2 : bi .len [.ref h.length] (hpD h r.dropLast (q ++ [t])) = .ok (.int ((s + lows.length : Nat) : Int)) (hpD h r.dropLast (q ++ [t])) := by rw [len_refI (hpD0 _ _), dl]
        have e5 : ((s + lows.length : Nat) : Int) - ((lows.length : Int) + 1) + 1 = (s : Int) := by omega
        have e6 : (lows.length : Int) + 1 - 1 = (lows.length : Int) := by omega
        have e7 : -1000000000 < (lows.length : Int) ∧ (lows.length : Int) < 1000000000 := by omega
        unfold L_divided_4
        rw [ss_cons]
        have q1 : S.ev (run fns sub w d) sub w (.asg (.v 4) (.bin .div (.pop (.var 2)) (.idx (.var 1) (.neg (.con (.int 1)))))) none (stD W lows h.length y4 y5 y6) (hpD h r q) = .nx (stD W lows h.length (some (.int t)) y5 y6) (hpD h r.dropLast q) := by
          rw [S.ev, E.ev, p1]
          simp only [stD, Ss.ev, S.ev, Hs.ev, E.ev, Es.ev, T.ev, Pt.put, Pts.put, Pts.len, Es.len, Oe.ev, It.ev, bind_ok, bind_err, bind_bad, th_ok, th_err, th_bad, nxth, retth, errth, badth, noerr_ok, fin_nx, fin_ret, fin_err, tidy_same, tidyX_same, List.getElem?_cons_zero, List.getElem?_cons_succ, List.set_cons_zero, List.set_cons_succ, p2, bin_div', p4]
        rw [q1, nxth, ss_cons, p3, nxth, ss_cons]
        have q2 : S.ev (run fns sub w d) sub w (.asg (.v 5) (.bin .add (.bin .sub (.bi .len (.cons (.var 2) .nil)) (.bi .len (.cons (.var 1) .nil))) (.con (.int 1)))) none (stD W lows h.length (some (.int t)) y5 y6) (hpD h r.dropLast (q ++ [t])) = .nx (stD W lows h.length (some (.int t)) (some (.int (s : Int))) y6) (hpD h r.dropLast (q ++ [t])) := by
          simp only [stD, Ss.ev, S.ev, Hs.ev, E.ev, Es.ev, T.ev, Pt.put, Pts.put, Pts.len, Es.len, Oe.ev, It.ev, bind_ok, bind_err, bind_bad, th_ok, th_err, th_bad, nxth, retth, errth, badth, noerr_ok, fin_nx, fin_ret, fin_err, tidy_same, tidyX_same, List.getElem?_cons_zero, List.getElem?_cons_succ, List.set_cons_zero, List.set_cons_succ, lr2, lo, sub_int, add_int, e5]
        rw [q2, nxth, ss_cons]
        have ei : It.ev (run fns sub w d) sub w none (.rng1 (.bin .sub (.bi .len (.cons (.var 1) .nil)) (.con (.int 1)))) (stD W lows h.length (some (.int t)) (some (.int (s : Int))) y6) (hpD h r.dropLast (q ++ [t])) = .ok (.rng 0 lows.length) (hpD h r.dropLast (q ++ [t])) := it_rng1 (by simp only [stD, Ss.ev, S.ev, Hs.ev, E.ev, Es.ev, T.ev, Pt.put, Pts.put, Pts.len, Es.len, Oe.ev, It.ev, bind_ok, bind_err, bind_bad, th_ok, th_err, th_bad, nxth, retth, errth, badth, noerr_ok, fin_nx, fin_ret, fin_err, tidy_same, tidyX_same, List.getElem?_cons_zero, List.getElem?_cons_succ, List.set_cons_zero, List.set_cons_succ, lo, sub_int, e6]) (by omega)
        rw [S.ev, ei, th_ok, il, nxth, ss_nil]
/-- what a division leaves, and how great its numbers are -/
structure Dv (W lows : List Int) (b : Nat) (q r : List Int) : Prop where
  ql : q.length = W.length - lows.length
  rl : r.length ≤ lows.length
  eq : ∀ k, gI W k = cv q (moI lows) k + gI r k
  qb : ∀ x ∈ q, Bd (b + 6 * q.length) x
  rb : ∀ x ∈ r, Bd (b + 6 * q.length) x
theorem divided_run {i j : Nat} (e : fns i = some (F_divided j)) (e1 : fns j = some F_trimmed) (hw : 1000 < w) (d : Nat) (cl : ClH h) (W lows : List Int) (b : Nat) (hW : W.length ≤ 30) (hl : lows.length ≤ 30) (hb : b ≤ 100) (bW : ∀ x ∈ W, Bd b x) (bl : ∀ x ∈ lows, Bd 5 x) :
    ∃ q r, Dv W lows b q r ∧ run fns sub w (d + 2) i [tZ W, tZ (lows ++ [1])] h = .ok (.tup [tZ q, tZ (trimZ r)]) h := by
  have i0 : DInv W lows b W [] := ⟨by simp, .inl rfl, fun k => by simp [shf, cv], by simpa using bW, fun x hx => (by cases hx), Nat.le_refl _⟩
  obtain ⟨r, q, x4, x5, x6, w1, i1, w3⟩ := div_go (fns := fns) (sub := sub) (h := h) (d + 1) W lows b hW hl hb hw bl w W [] none none none i0 (by omega)
  refine ⟨q.reverse, r, ⟨?_, w3, fun k => ?_, ?_, ?_⟩, ?_⟩
  · have := i1.l
    rw [List.length_reverse]; omega
  · have := i1.eq k
    rw [show r.length - lows.length = 0 by omega] at this
    rw [this]
    unfold shf
    rw [if_neg (by omega)]; rfl
  · intro x hx
    rw [List.length_reverse]
    exact i1.qb x (List.mem_reverse.mp hx)
  · intro x hx
    rw [List.length_reverse]
    exact i1.rb x hx
  · rw [un e _ _ _ rfl (of_decide_eq_true rfl)]
    have c1 : C.unders (h.length + 1) (iZ r) = true := iZ_unders _ _
    have c2 : ClH (hpD h r q) := by
      have a := cl_push (cl_push cl (xs := iZ r) (iZ_unders _ _)) (xs := iZ q) (iZ_unders _ _)
      simpa [hpD] using a
    have c3 : ClH (hpD h r q ++ [iZ q.reverse]) := cl_push c2 (iZ_unders _ _)
    have w1' : whileF (T.ev (run fns sub w (d + 1)) sub w none T_divided_1) (Ss.ev (run fns sub w (d + 1)) sub w L_divided_4 none) w [some (tZ W), some (tZ (lows ++ [1])), some (C.ref h.length), some (C.ref (h.length + 1)), none, none, none] (h ++ [iZ W] ++ [[]]) = .nx (stD W lows h.length x4 x5 x6) (hpD h r q) := by
      rw [← w1]
      simp [stD, hpD, iZ]
    have t1 := trimmed_run (sub := sub) (w := w) e1 d h.length (hpD h r q ++ [iZ q.reverse]) r (by rw [List.getElem?_append_left (by simp [hpD])]; exact hpD0 r q) c3 (by omega)
    have l1 : (h ++ [iZ W]).length = h.length + 1 := by simp
    have l0 : ([] : List C).length ≤ lineN := by decide
    have g1 : (hpD h r q)[h.length + 1]? = some (iZ q) := hpD1 r q
    have l2 : ([tZ q.reverse, tZ (trimZ r)] : List C).length ≤ lineN := by show 2 ≤ lineN; decide
    simp only [F_divided, List.map_cons, List.map_nil, List.replicate, List.cons_append, List.nil_append, Nat.reduceSub, ss_cons, ss_nil]
    simp only [Ss.ev, S.ev, Hs.ev, E.ev, Es.ev, T.ev, Pt.put, Pts.put, Pts.len, Es.len, Oe.ev, It.ev, bind_ok, bind_err, bind_bad, th_ok, th_err, th_bad, nxth, retth, errth, badth, noerr_ok, fin_nx, fin_ret, fin_err, tidy_same, tidyX_same, List.getElem?_cons_zero, List.getElem?_cons_succ, List.set_cons_zero, List.set_cons_succ, list_of (seq_tZ h W), l1, if_pos l0, w1', stD, g1]
    simp only [Ss.ev, S.ev, Hs.ev, E.ev, Es.ev, T.ev, Pt.put, Pts.put, Pts.len, Es.len, Oe.ev, It.ev, bind_ok, bind_err, bind_bad, th_ok, th_err, th_bad, nxth, retth, errth, badth, noerr_ok, fin_nx, fin_ret, fin_err, tidy_same, tidyX_same, List.getElem?_cons_zero, List.getElem?_cons_succ, List.set_cons_zero, List.set_cons_succ, iZ_rev, tuple_ref (last_get (hpD h r q) _), t1, if_pos l2]
    have := tidy_cl cl (.tup [tZ q.reverse, tZ (trimZ r)]) ([iZ r, iZ q] ++ [iZ q.reverse]) (by
      show (C.unders _ (iZ _) && (C.unders _ (iZ _) && true)) = true
      rw [iZ_unders, iZ_unders]; rfl)
    rw [← List.append_assoc] at this
    exact this
end
end
end Sh
set_option linter.all false
set_option autoImplicit false
set_option maxRecDepth 100000
set_option maxHeartbeats 4000000
/-! Sh, part X: what is told of products and rests. -/
namespace Sh
open PySem
/-- the sum of the first n numbers, each led by its place -/
def cvF (f : Nat → Int) (o : Nat → Int) (k : Nat) : Nat → Int
  | 0 => 0
  | n + 1 => cvF f o k n + f n * shf n o k
theorem gI_cons (x : Int) (xs : List Int) (k : Nat) : gI (x :: xs) k = if k = 0 then x else gI xs (k - 1) := by
  cases k with
  | zero => rfl
  | succ k => simp [gI, List.getD]
theorem cvF_succ (x : Int) (xs : List Int) (o : Nat → Int) (k : Nat) : ∀ n, cvF (gI (x :: xs)) o k (n + 1) = x * o k + (if k = 0 then 0 else cvF (gI xs) o (k - 1) n)
  | 0 => by
    show 0 + gI (x :: xs) 0 * shf 0 o k = _
    rw [gI_cons, if_pos rfl]
    unfold shf
    rw [if_neg (by omega)]
    split <;> simp [cvF]
  | n + 1 => by
    show cvF (gI (x :: xs)) o k (n + 1) + gI (x :: xs) (n + 1) * shf (n + 1) o k = _
    rw [cvF_succ x xs o k n, gI_cons, if_neg (show ¬ n + 1 = 0 by omega)]
    show _ = x * o k + (if k = 0 then 0 else cvF (gI xs) o (k - 1) n + gI xs n * shf n o (k - 1))
    unfold shf
    by_cases h : k = 0
    · rw [if_pos h, if_pos h, if_pos (show k < n + 1 by omega)]; simp
    · rw [if_neg h, if_neg h]
      rw [show n + 1 - 1 = n by omega]
      by_cases h2 : k < n + 1
      · rw [if_pos h2, if_pos (show k - 1 < n by omega)]; omega
      · rw [if_neg h2, if_neg (show ¬ k - 1 < n by omega), show k - (n + 1) = k - 1 - n by omega]; omega
theorem cv_cvF (o : Nat → Int) : ∀ (xs : List Int) (k : Nat), cv xs o k = cvF (gI xs) o k xs.length
  | [], k => rfl
  | x :: xs, k => by
    show x * o k + (if k = 0 then 0 else cv xs o (k - 1)) = _
    rw [List.length_cons, cvF_succ]
    split
    · rfl
    · rw [cv_cvF o xs]
theorem cvF_add (f : Nat → Int) (o : Nat → Int) (k n : Nat) : ∀ j, (∀ a, n ≤ a → f a = 0) → cvF f o k (n + j) = cvF f o k n
  | 0, _ => rfl
  | j + 1, h => by
    show cvF f o k (n + j) + f (n + j) * shf (n + j) o k = _
    rw [cvF_add f o k n j h, h _ (by omega)]; simp
theorem cv_at (o : Nat → Int) (xs : List Int) (k n : Nat) (h : xs.length ≤ n) : cv xs o k = cvF (gI xs) o k n := by
  rw [cv_cvF, show n = xs.length + (n - xs.length) by omega, cvF_add _ _ _ _ _ (fun a ha => getD_big ha)]
theorem cvF_sub (f g : Nat → Int) (o : Nat → Int) (k : Nat) : ∀ n, cvF (fun a => f a - g a) o k n = cvF f o k n - cvF g o k n
  | 0 => rfl
  | n + 1 => by
    show cvF _ o k n + (f n - g n) * _ = cvF f o k n + f n * _ - (cvF g o k n + g n * _)
    rw [cvF_sub f g o k n, Int.sub_mul]; omega
theorem cvF_low (f o : Nat → Int) (m j : Nat) (ho : ∀ i, m < i → o i = 0) : ∀ n, n ≤ j → cvF f o (j + m) n = 0
  | 0, _ => rfl
  | n + 1, h => by
    show cvF f o (j + m) n + f n * shf n o (j + m) = 0
    rw [cvF_low f o m j ho n (by omega)]
    unfold shf
    rw [if_neg (by omega), ho _ (by omega)]; simp
/-- there is just one quotient -/
theorem cvF_uni (d r o : Nat → Int) (m n : Nat) (ho : ∀ i, m < i → o i = 0) (h1 : o m = 1) (hd : ∀ a, n ≤ a → d a = 0) (hr : ∀ k, m ≤ k → r k = 0) (h : ∀ k, cvF d o k n + r k = 0) : ∀ a, d a = 0 := by
  have key : ∀ j a, n - j ≤ a → d a = 0 := by
    intro j
    induction j with
    | zero => exact fun a ha => hd a (by omega)
    | succ j ih =>
      intro a ha
      by_cases hj : n - j ≤ a
      · exact ih a hj
      · have ha2 : a + 1 = n - j := by omega
        have e := h (a + m)
        rw [hr _ (by omega), show n = a + 1 + (n - (a + 1)) by omega, cvF_add d o _ (a + 1) _ (fun b hb => ih b (by omega))] at e
        have e2 : cvF d o (a + m) a + d a * shf a o (a + m) + 0 = 0 := e
        rw [cvF_low d o m a ho a (Nat.le_refl _)] at e2
        unfold shf at e2
        rw [if_neg (by omega), show a + m - a = m by omega, h1] at e2
        omega
  exact fun a => key n a (by omega)
theorem mo_big (lows : List Int) (i : Nat) (h : lows.length < i) : moI lows i = 0 := by
  unfold moI
  rw [if_neg (by omega), if_neg (by omega)]
theorem mo_top (lows : List Int) : moI lows lows.length = 1 := by
  unfold moI
  rw [if_neg (by omega), if_pos rfl]
theorem div_uni {q q' r r' lows : List Int} (hr : r.length ≤ lows.length) (hr' : r'.length ≤ lows.length) (h : ∀ k, cv q (moI lows) k + gI r k = cv q' (moI lows) k + gI r' k) : (∀ a, gI q a = gI q' a) ∧ ∀ k, gI r k = gI r' k := by
  have hq : ∀ a, gI q a - gI q' a = 0 := by
    refine cvF_uni (fun a => gI q a - gI q' a) (fun k => gI r k - gI r' k) (moI lows) lows.length (max q.length q'.length) (mo_big lows) (mo_top lows) (fun a ha => ?_) (fun k hk => ?_) (fun k => ?_)
    · show gI q a - gI q' a = 0
      rw [getD_big (by omega), getD_big (by omega)]; rfl
    · show gI r k - gI r' k = 0
      rw [getD_big (by omega), getD_big (by omega)]; rfl
    · rw [cvF_sub, ← cv_at _ _ _ _ (Nat.le_max_left _ _), ← cv_at _ _ _ _ (Nat.le_max_right _ _)]
      have := h k
      omega
  have hq' : ∀ a, gI q a = gI q' a := fun a => by have := hq a; omega
  refine ⟨hq', fun k => ?_⟩
  have e := h k
  rw [cv_at _ _ _ _ (Nat.le_max_left q.length q'.length), cv_at _ _ _ _ (Nat.le_max_right q.length q'.length)] at e
  rw [show gI q = gI q' from funext hq'] at e
  omega
theorem cvF_high (f o : Nat → Int) (m n k : Nat) (ho : ∀ i, m < i → o i = 0) (hk : n + m ≤ k) : cvF f o k n = 0 := by
  have := cvF_low f o m (k - m) ho n (by omega)
  rwa [show k - m + m = k by omega] at this
theorem cv_high (xs : List Int) (o : Nat → Int) (m k : Nat) (ho : ∀ i, m < i → o i = 0) (hk : xs.length + m ≤ k) : cv xs o k = 0 := by
  rw [cv_cvF]; exact cvF_high _ _ m _ _ ho hk
/-- a quotient of a row with a head has a head -/
theorem Dv.trim {W lows q r : List Int} {b : Nat} (D : Dv W lows b q r) (hW : Trim W) : Trim q := by
  by_cases hq : q.length = 0
  · exact .inl (List.eq_nil_of_length_eq_zero hq)
  · right
    have l := D.ql
    rcases hW with rfl | hW
    · simp at l; exact absurd (by rw [l]; rfl) hq
    · have e := D.eq (W.length - 1)
      rw [getD_big (show r.length ≤ W.length - 1 by have := D.rl; omega), cv_cvF] at e
      have hl : q.length = (q.length - 1) + 1 := by omega
      rw [hl] at e
      have e2 : gI W (W.length - 1) = cvF (gI q) (moI lows) (W.length - 1) (q.length - 1) + gI q (q.length - 1) * shf (q.length - 1) (moI lows) (W.length - 1) + 0 := e
      rw [show W.length - 1 = (q.length - 1) + lows.length by omega, cvF_low _ _ lows.length _ (mo_big lows) _ (Nat.le_refl _)] at e2
      unfold shf at e2
      rw [if_neg (by omega), show q.length - 1 + lows.length - (q.length - 1) = lows.length by omega, mo_top] at e2
      rw [show W.length - 1 = (q.length - 1) + lows.length by omega] at hW
      intro z
      rw [z] at e2
      exact hW (by rw [e2]; rfl)
/-- a comprehension's and [0]'s greatest -/
theorem maxI_spec : ∀ (r : List Int) (x : Int), maxI x r ∈ x :: r ∧ ∀ y ∈ x :: r, y ≤ maxI x r
  | [], x => ⟨by simp [maxI], fun y hy => by simp at hy; rw [hy]; exact Int.le_refl _⟩
  | z :: r, x => by
    obtain ⟨h1, h2⟩ := maxI_spec r (if x < z then z else x)
    refine ⟨?_, fun y hy => ?_⟩
    · show maxI (if x < z then z else x) r ∈ _
      rcases List.mem_cons.mp h1 with e | e
      · rw [e]; split <;> simp
      · simp [e]
    · show y ≤ maxI (if x < z then z else x) r
      have h3 := h2 (if x < z then z else x) (by simp)
      generalize hM : maxI (if x < z then z else x) r = M at h2 h3
      rcases List.mem_cons.mp hy with e | e
      · rw [e]; split at h3 <;> omega
      · rcases List.mem_cons.mp e with e | e
        · rw [e]; split at h3 <;> omega
        · exact h2 y (by simp [e])
theorem max_ref {h : Hc} {n : Nat} {xs : List Int} (e : h[n]? = some (iZ xs)) (hx : xs ≠ []) : ∃ m, bi .maxL [.ref n] h = .ok (.int m) h ∧ m ∈ xs ∧ ∀ y ∈ xs, y ≤ m := by
  match xs, hx with
  | x :: r, _ =>
    obtain ⟨h1, h2⟩ := maxI_spec r x
    refine ⟨maxI x r, ?_, h1, h2⟩
    show (match (h[n]?).bind intsC with
      | some (x :: r) => R.ok (C.int (maxI x r)) h
      | _ => .bad) = _
    rw [e]
    show (match intsC (iZ (x :: r)) with
      | some (x :: r) => R.ok (C.int (maxI x r)) h
      | _ => .bad) = _
    rw [iZ_iZ]
end Sh
set_option linter.all false
set_option autoImplicit false
set_option maxRecDepth 100000
set_option maxHeartbeats 8000000
/-! Sh, part W: pots that numbers are drawn from; rows drawn. -/
namespace Sh
open PySem
def Pot (L : List C) : Prop := ∃ p0 p1 : Int, L = [.int p0, .int p1] ∧ 0 ≤ p1 ∧ p1 < 2147483648
def PotAt (h : Hc) (n : Nat) : Prop := ∃ L, h[n]? = some L ∧ Pot L
def Nx (n : Nat) (h h' : Hc) : Prop := h' = h ∨ ∃ L, h' = h.set n L ∧ Pot L
theorem PotAt.lt {h : Hc} {n : Nat} (p : PotAt h n) : n < h.length := by
  obtain ⟨L, e, _⟩ := p
  exact (List.getElem?_eq_some_iff.mp e).1
theorem Nx.refl (n : Nat) (h : Hc) : Nx n h h := .inl rfl
theorem Nx.len {n : Nat} {h h' : Hc} (x : Nx n h h') : h'.length = h.length := by
  rcases x with rfl | ⟨L, rfl, _⟩
  · rfl
  · simp
theorem Nx.pot {n : Nat} {h h' : Hc} (x : Nx n h h') (p : PotAt h n) : PotAt h' n := by
  rcases x with rfl | ⟨L, rfl, q⟩
  · exact p
  · exact ⟨L, List.getElem?_set_self p.lt, q⟩
theorem Nx.trans {n : Nat} {h h' h2 : Hc} (x : Nx n h h') (y : Nx n h' h2) : Nx n h h2 := by
  rcases y with rfl | ⟨L, rfl, q⟩
  · exact x
  · rcases x with rfl | ⟨M, rfl, _⟩
    · exact .inr ⟨L, rfl, q⟩
    · exact .inr ⟨L, by rw [List.set_set], q⟩
theorem Pot.under {L : List C} (p : Pot L) (n : Nat) : C.unders n L = true := by
  obtain ⟨a, b, rfl, _⟩ := p
  rfl
theorem Nx.closed {n : Nat} {h h' : Hc} (x : Nx n h h') (cl : ClH h) : ClH h' := by
  rcases x with rfl | ⟨L, rfl, q⟩
  · exact cl
  · exact cl_set cl (q.under _)
theorem Nx.get {n m : Nat} {h h' : Hc} (x : Nx n h h') (hm : m ≠ n) : h'[m]? = h[m]? := by
  rcases x with rfl | ⟨L, rfl, q⟩
  · rfl
  · rw [List.getElem?_set_ne (fun z => hm z.symm)]
theorem Nx.app {n : Nat} {h h' : Hc} (x : Nx n h h') (hn : n < h.length) (t : Hc) : Nx n (h ++ t) (h' ++ t) := by
  rcases x with rfl | ⟨L, rfl, q⟩
  · exact .inl rfl
  · exact .inr ⟨L, by rw [List.set_append_left _ _ hn], q⟩
theorem PotAt.app {n : Nat} {h : Hc} (p : PotAt h n) (t : Hc) : PotAt (h ++ t) n := by
  obtain ⟨L, e, q⟩ := p
  exact ⟨L, by rw [List.getElem?_append_left (List.getElem?_eq_some_iff.mp e).1]; exact e, q⟩
theorem tidy_len {h h1 : Hc} (e : h1.length = h.length) (c : C) : tidy h.length c h1 = .ok c h1 := by
  rw [← e]
  exact tidy_same h1 c
theorem tidy_ref {h h1 : Hc} {n : Nat} (e : h.length ≤ n) : tidy h.length (.ref n) h1 = .ok (.ref n) h1 := by
  unfold tidy
  rw [show C.under h.length (.ref n) = false from decide_eq_false (by omega)]
  rfl
theorem itr0 {h : Hc} {n : Nat} {x y : C} (e : h[n]? = some [x, y]) : item (.ref n) (.int 0) h = .ok x h := item_of (seq_ref e) (j := 0) rfl rfl
theorem itr1 {h : Hc} {n : Nat} {x y : C} (e : h[n]? = some [x, y]) : item (.ref n) (.int 1) h = .ok y h := item_of (seq_ref e) (j := 1) rfl rfl
theorem sei0 {h : Hc} {n : Nat} {x y z : C} (e : h[n]? = some [x, y]) : setitem (.ref n) (.int 0) z h = .ok () (h.set n [z, y]) := by
  show (match h[n]? with
    | some xs => match ixC xs.length 0 with
      | some j => R.ok () (h.set n (xs.set j z))
      | none => .bad
    | none => .bad) = _
  rw [e]
  rfl
theorem sei1 {h : Hc} {n : Nat} {x y z : C} (e : h[n]? = some [x, y]) : setitem (.ref n) (.int 1) z h = .ok () (h.set n [x, z]) := by
  show (match h[n]? with
    | some xs => match ixC xs.length 1 with
      | some j => R.ok () (h.set n (xs.set j z))
      | none => .bad
    | none => .bad) = _
  rw [e]
  rfl
theorem fmod_b (i : Int) {j : Int} (h : 0 < j) : 0 ≤ i.fmod j ∧ i.fmod j < j := ⟨Int.fmod_nonneg_of_pos i h, Int.fmod_lt_of_pos i h⟩
theorem divmod_int (h : Hc) (i j : Int) (h1 : 0 < j) (h2 : j < 1000000000) : bi .divmod [.int i, .int j] h = .ok (.tup [.int (i / j), .int (i % j)]) h := by
  show (if 0 < j ∧ j < 1000000000 then R.ok (C.tup [.int (i / j), .int (i % j)]) h else .bad) = _
  rw [if_pos ⟨h1, h2⟩]
/-- a def that draws -/
def DrawOk (fns : Nat → Option Fn) (sub : Nat → Str → Option Bool) (w j : Nat) : Prop := ∀ (d : Nat) (h : Hc) (n : Nat) (many : Int), PotAt h n → 0 < many → many < 1000000000 → ∃ dg h', 0 ≤ dg ∧ dg < many ∧ Nx n h h' ∧ run fns sub w (d + 1) j [.ref n, .int many] h = .ok (.int dg) h'
section
variable {fns : Nat → Option Fn} {sub : Nat → Str → Option Bool} {w : Nat}
def C_law_cut_1 : E := (.bin .add (.var 2) (.con (.int 1)))
def P_law_cut_2 : Pt := (.v 2)
def T_law_cut_3 : T := (.cmp .ne (.idx (.var 0) (.var 2)) (.con (.int 0)))
def F_law_cut : Fn := ⟨3, 1, (.cons (.asg (.v 1) (.bi .maxL (.cons (.bin .add (.comp C_law_cut_1 P_law_cut_2 (.rng1 (.bi .len (.cons (.var 0) .nil))) T_law_cut_3) (.lst (.cons (.con (.int 0)) .nil))) .nil))) (.cons (.ret (.bi .tuple (.cons (.slc (.var 0) .none (.some (.var 1))) .nil))) .nil))⟩
def C_law_row_1 (j_law_draw : Nat) : E := (.bin .sub (.call j_law_draw (.cons (.var 0) (.cons (.bin .add (.bin .mul (.con (.int 2)) (.var 2)) (.con (.int 1))) .nil))) (.var 2))
def P_law_row_2 : Pt := (.v 3)
def F_law_row (j_law_draw : Nat) : Fn := ⟨4, 3, (.cons (.ret (.comp (C_law_row_1 j_law_draw) P_law_row_2 (.rng1 (.var 1)) .yes)) .nil)⟩

theorem row_run {i j : Nat} (e : fns i = some (F_law_row j)) (dr : DrawOk fns sub w j) (hw : 1000 < w) (d : Nat) (h : Hc) (n : Nat) (p : PotAt h n) (long : Nat) (size : Nat) (hl : long ≤ 100) (hs : size ≤ 10000000) :
    ∃ xs h', Nx n h h' ∧ xs.length = long ∧ (∀ x ∈ xs, x.natAbs ≤ size) ∧ run fns sub w (d + 2) i [.ref n, .int (long : Int), .int (size : Int)] h = .ok (.ref h.length) (h' ++ [iZ xs]) := by
  rw [un e _ _ _ rfl (of_decide_eq_true rfl)]
  have m1 := mul_of (i := 2) (j := (size : Int)) (bd_small (by omega) (by omega)) (bd_small (by omega) (by omega)) (by decide) (by decide)
  obtain ⟨acc, h', c1, h'x, xs, c2, c3, c4⟩ := compF_gen (it := .rng 0 long) (n := long) (el := fun i => .int (0 + (i : Int))) (g := Pt.put (run fns sub w (d + 1)) sub w none P_law_row_2) (t := T.ev (run fns sub w (d + 1)) sub w none .yes) (e := E.ev (run fns sub w (d + 1)) sub w none (C_law_row_1 j)) (sl := [some (.ref n), some (.int (long : Int)), some (.int (size : Int)), none])
    (fun i acc h' => Nx n h h' ∧ ∃ xs : List Int, acc = iZ xs ∧ xs.length = i ∧ ∀ x ∈ xs, x.natAbs ≤ size) (fun _ _ _ _ _ => rfl) (fun i acc h' ⟨a1, xs, a2, a3, a4⟩ hi => by
      obtain ⟨dg, h2, b1, b2, b3, b4⟩ := dr d h' n (2 * (size : Int) + 1) (a1.pot p) (by omega) (by omega)
      refine ⟨[some (.ref n), some (.int (long : Int)), some (.int (size : Int)), some (.int (0 + (i : Int)))], h', true, h', rfl, rfl, (fun z => by cases z), fun _ => ⟨by rw [a2, iZ_len, a3]; exact Nat.lt_trans (show i < 1000 by omega) (by decide), .int (dg - (size : Int)), h2, ?_, a1.trans b3, xs ++ [dg - (size : Int)], ?_, ?_, ?_⟩⟩
      · simp only [C_law_row_1, Ss.ev, S.ev, Hs.ev, E.ev, Es.ev, T.ev, Pt.put, Pts.put, Pts.len, Es.len, Oe.ev, It.ev, bind_ok, bind_err, bind_bad, th_ok, th_err, th_bad, nxth, retth, errth, badth, noerr_ok, fin_nx, fin_ret, fin_err, tidy_same, tidyX_same, List.getElem?_cons_zero, List.getElem?_cons_succ, List.set_cons_zero, List.set_cons_succ, bin_mul', m1, add_int, b4, sub_int]
      · rw [a2, iZ_app]; rfl
      · simp [a3]
      · intro x hx
        rcases List.mem_append.mp hx with z | z
        · exact a4 x z
        · have : x = dg - (size : Int) := by simpa using z
          omega) w 0 [] h ⟨.inl rfl, [], rfl, rfl, by simp⟩ (Nat.zero_le _) (by omega)
  refine ⟨xs, h', h'x, c3, c4, ?_⟩
  have ei : It.ev (run fns sub w (d + 1)) sub w none (.rng1 (.var 1)) [some (.ref n), some (.int (long : Int)), some (.int (size : Int)), none] h = .ok (.rng 0 long) h := it_rng1 rfl (by omega)
  simp only [F_law_row, List.map_cons, List.map_nil, List.replicate, List.cons_append, List.nil_append, Nat.reduceSub, ss_cons, ss_nil]
  rw [S.ev, E.ev, ei, bind_ok]
  rw [show Pt.wipe P_law_row_2 [some (.ref n), some (.int (long : Int)), some (.int (size : Int)), none] = [some (.ref n), some (.int (long : Int)), some (.int (size : Int)), none] from rfl]
  rw [show compF (ItV.rng 0 long) (fun c sl h => Pt.put (run fns sub w (d + 1)) sub w none P_law_row_2 c sl h) (fun sl h => T.ev (run fns sub w (d + 1)) sub w none .yes sl h) (fun sl h => E.ev (run fns sub w (d + 1)) sub w none (C_law_row_1 j) sl h) w 0 [some (.ref n), some (.int (long : Int)), some (.int (size : Int)), none] [] h = _ from c1]
  rw [noerr_ok, bind_ok, th_ok, retth, fin_ret, h'x.len, c2]
  exact tidy_ref (Nat.le_refl _)
theorem cut_ok {xs : List Int} {m : Int} {ys : List Int} (hy : ys = ((List.range xs.length).filter fun k => gI xs k != 0).map (fun (k : Nat) => (k : Int) + 1) ++ [0]) (h1 : m ∈ ys) (h2 : ∀ y ∈ ys, y ≤ m) : m = ((tl xs xs.length : Nat) : Int) := by
  subst hy
  have h0 : 0 ≤ m := h2 0 (by simp)
  obtain ⟨k, rfl⟩ : ∃ k : Nat, m = (k : Int) := ⟨m.toNat, by omega⟩
  have key : k = tl xs xs.length := by
    refine tl_uni ?_ (fun j hj hl => ?_) ?_
    · rcases List.mem_append.mp h1 with z | z
      · obtain ⟨a, ha, e⟩ := List.mem_map.mp z
        have := List.mem_range.mp (List.mem_filter.mp ha).1
        omega
      · have : (k : Int) = 0 := by simpa using z
        omega
    · refine Decidable.byContradiction fun hne => ?_
      have hb : (gI xs j != 0) = true := bne_iff_ne.mpr hne
      have := h2 ((j : Int) + 1) (List.mem_append_left _ (List.mem_map.mpr ⟨j, List.mem_filter.mpr ⟨List.mem_range.mpr hl, hb⟩, rfl⟩))
      omega
    · rcases List.mem_append.mp h1 with z | z
      · obtain ⟨a, ha, e⟩ := List.mem_map.mp z
        right
        have hb := (List.mem_filter.mp ha).2
        rw [show k - 1 = a by omega]
        exact bne_iff_ne.mp hb
      · have : (k : Int) = 0 := by simpa using z
        left; omega
  rw [key]
theorem cut_run {i : Nat} (e : fns i = some F_law_cut) (hw : 1000 < w) (d : Nat) (h : Hc) (cl : ClH h) (x : C) (xs : List Int) (hx : seqOf h x = some (iZ xs)) (hk : x = tZ xs ∨ ∃ n, x = .ref n) (hl : xs.length ≤ 400) :
    run fns sub w (d + 1) i [x] h = .ok (tZ (trimZ xs)) h := by
  rw [un e _ _ _ rfl (of_decide_eq_true rfl)]
  obtain ⟨acc, h', c1, rfl, c2⟩ := compF_gen (it := .rng 0 xs.length) (n := xs.length) (el := fun i => .int (0 + (i : Int))) (g := Pt.put (run fns sub w d) sub w none P_law_cut_2) (t := T.ev (run fns sub w d) sub w none T_law_cut_3) (e := E.ev (run fns sub w d) sub w none C_law_cut_1) (sl := [some x, none, none])
    (fun i acc h' => h' = h ∧ acc = iZ (((List.range i).filter fun k => gI xs k != 0).map (fun (k : Nat) => (k : Int) + 1))) (fun _ _ _ _ _ => rfl) (fun i acc h' ⟨a1, a2⟩ hi => by
      subst a1
      have it := item_iZI (x := x) (j := 0 + (i : Int)) i hx (by omega) hi
      refine ⟨[some x, none, some (.int (0 + (i : Int)))], h', (gI xs i != 0), h', rfl, ?_, fun z => ⟨rfl, ?_⟩, fun z => ⟨?_, .int (0 + (i : Int) + 1), h', rfl, rfl, ?_⟩⟩
      · simp only [T_law_cut_3, Ss.ev, S.ev, Hs.ev, E.ev, Es.ev, T.ev, Pt.put, Pts.put, Pts.len, Es.len, Oe.ev, It.ev, bind_ok, bind_err, bind_bad, th_ok, th_err, th_bad, nxth, retth, errth, badth, noerr_ok, fin_nx, fin_ret, fin_err, tidy_same, tidyX_same, List.getElem?_cons_zero, List.getElem?_cons_succ, List.set_cons_zero, List.set_cons_succ, it, ne_int, bne]
      · rw [a2, List.range_succ, List.filter_append]
        simp [z]
      · rw [a2, iZ_len]
        have := List.length_filter_le (fun k => gI xs k != 0) (List.range i)
        simp only [List.length_map]
        rw [List.length_range] at this
        exact Nat.lt_of_le_of_lt (show _ ≤ 400 by omega) (by decide)
      · rw [a2, List.range_succ, List.filter_append, List.filter_cons, if_pos z, List.map_append, iZ_app]
        simp [iZ]) w 0 [] h ⟨rfl, rfl⟩ (Nat.zero_le _) (by omega)
  generalize hzs : ((List.range xs.length).filter fun k => gI xs k != 0).map (fun (k : Nat) => (k : Int) + 1) = zs at c2
  have zl : zs.length ≤ 400 := by
    rw [← hzs, List.length_map]
    have := List.length_filter_le (fun k => gI xs k != 0) (List.range xs.length)
    rw [List.length_range] at this
    omega
  subst c2
  have ln : bi .len [x] h' = .ok (.int (xs.length : Int)) h' := by rw [len_of hx, iZ_len]
  have ei : It.ev (run fns sub w d) sub w none (.rng1 (.bi .len (.cons (.var 0) .nil))) [some x, none, none] h' = .ok (.rng 0 xs.length) h' := it_rng1 (by simp only [Ss.ev, S.ev, Hs.ev, E.ev, Es.ev, T.ev, Pt.put, Pts.put, Pts.len, Es.len, Oe.ev, It.ev, bind_ok, bind_err, bind_bad, th_ok, th_err, th_bad, nxth, retth, errth, badth, noerr_ok, fin_nx, fin_ret, fin_err, tidy_same, tidyX_same, List.getElem?_cons_zero, List.getElem?_cons_succ, List.set_cons_zero, List.set_cons_succ, ln]) (by omega)
  obtain ⟨m, m1, m2, m3⟩ := max_ref (h := h' ++ [iZ zs] ++ [iZ [0]] ++ [iZ (zs ++ [0])]) (n := (h' ++ [iZ zs] ++ [iZ [0]]).length) (xs := zs ++ [0]) (last_get _ _) (by simp)
  have mm : m = ((tl xs xs.length : Nat) : Int) := cut_ok (by rw [hzs]) m2 m3
  subst mm
  have ad : addC (.ref h'.length) (.ref (h' ++ [iZ zs]).length) (h' ++ [iZ zs] ++ [iZ [0]]) = .ok (.ref (h' ++ [iZ zs] ++ [iZ [0]]).length) (h' ++ [iZ zs] ++ [iZ [0]] ++ [iZ (zs ++ [0])]) := by
    have g1 : (h' ++ [iZ zs] ++ [iZ [0]])[h'.length]? = some (iZ zs) := by simp
    have g2 : (h' ++ [iZ zs] ++ [iZ [0]])[(h' ++ [iZ zs]).length]? = some (iZ [0]) := last_get _ _
    show (match (h' ++ [iZ zs] ++ [iZ [0]])[h'.length]?, (h' ++ [iZ zs] ++ [iZ [0]])[(h' ++ [iZ zs]).length]? with
      | some xs, some ys => if lineN < xs.length + ys.length then R.bad else .ok (C.ref (h' ++ [iZ zs] ++ [iZ [0]]).length) (h' ++ [iZ zs] ++ [iZ [0]] ++ [xs ++ ys])
      | _, _ => .bad) = _
    rw [g1, g2]
    show (if lineN < (iZ zs).length + (iZ [0]).length then R.bad else _) = _
    rw [if_neg (by rw [iZ_len, iZ_len]; exact Nat.not_lt.mpr (Nat.le_trans (show zs.length + 1 ≤ 500 by omega) (by decide))), iZ_app]
  have le := tl_le xs xs.length
  have cu : cutC (iZ xs) none (some ((tl xs xs.length : Nat) : Int)) = iZ (trimZ xs) := by
    rw [cut_to _ _ (by rw [iZ_len]; exact le), iZ_take]; rfl
  have fin2 : ∃ t, (slice x none (some ((tl xs xs.length : Nat) : Int)) (h' ++ [iZ zs] ++ [iZ [0]] ++ [iZ (zs ++ [0])])).bind (fun y h2 => bi .tuple [y] h2) = .ok (tZ (trimZ xs)) (h' ++ t) := by
    rcases hk with rfl | ⟨n, rfl⟩
    · refine ⟨[iZ zs] ++ [iZ [0]] ++ [iZ (zs ++ [0])], ?_⟩
      show (R.ok (C.tup (cutC (iZ xs) none (some ((tl xs xs.length : Nat) : Int)))) _).bind _ = _
      rw [cu, bind_ok]
      show R.ok (C.tup (iZ (trimZ xs))) _ = _
      simp [tZ]
    · have hn : n < h'.length := (List.getElem?_eq_some_iff.mp hx).1
      refine ⟨[iZ zs] ++ [iZ [0]] ++ [iZ (zs ++ [0])] ++ [iZ (trimZ xs)], ?_⟩
      have g : (h' ++ [iZ zs] ++ [iZ [0]] ++ [iZ (zs ++ [0])])[n]? = some (iZ xs) := by
        rw [List.append_assoc, List.append_assoc, List.getElem?_append_left hn]
        exact hx
      rw [slice_ref g, bind_ok, cu, tuple_ref (last_get _ _)]
      simp [tZ]
  obtain ⟨t, ft⟩ := fin2
  simp only [F_law_cut, List.map_cons, List.map_nil, List.replicate, List.cons_append, List.nil_append, Nat.reduceSub, ss_cons, ss_nil]
  have s1 : S.ev (run fns sub w d) sub w (.asg (.v 1) (.bi .maxL (.cons (.bin .add (.comp C_law_cut_1 P_law_cut_2 (.rng1 (.bi .len (.cons (.var 0) .nil))) T_law_cut_3) (.lst (.cons (.con (.int 0)) .nil))) .nil))) none [some x, none, none] h' = .nx [some x, some (.int ((tl xs xs.length : Nat) : Int)), none] (h' ++ [iZ zs] ++ [iZ [0]] ++ [iZ (zs ++ [0])]) := by
    rw [S.ev, E.ev, Es.ev, E.ev, E.ev, ei, bind_ok]
    rw [show Pt.wipe P_law_cut_2 [some x, none, none] = [some x, none, none] from rfl]
    rw [show compF (ItV.rng 0 xs.length) (fun c sl h => Pt.put (run fns sub w d) sub w none P_law_cut_2 c sl h) (fun sl h => T.ev (run fns sub w d) sub w none T_law_cut_3 sl h) (fun sl h => E.ev (run fns sub w d) sub w none C_law_cut_1 sl h) w 0 [some x, none, none] [] h' = _ from c1]
    rw [noerr_ok, bind_ok, bind_ok]
    have ll : E.ev (run fns sub w d) sub w none (.lst (.cons (.con (.int 0)) .nil)) [some x, none, none] (h' ++ [iZ zs]) = .ok (.ref (h' ++ [iZ zs]).length) (h' ++ [iZ zs] ++ [iZ [0]]) := by
      simp only [Ss.ev, S.ev, Hs.ev, E.ev, Es.ev, T.ev, Pt.put, Pts.put, Pts.len, Es.len, Oe.ev, It.ev, bind_ok, bind_err, bind_bad, th_ok, th_err, th_bad, nxth, retth, errth, badth, noerr_ok, fin_nx, fin_ret, fin_err, tidy_same, tidyX_same, List.getElem?_cons_zero, List.getElem?_cons_succ, List.set_cons_zero, List.set_cons_succ]
      rw [if_pos (show ([C.int 0] : List C).length ≤ lineN by show 1 ≤ lineN; decide)]; rfl
    rw [ll, bind_ok, show binop .add (.ref h'.length) (.ref (h' ++ [iZ zs]).length) (h' ++ [iZ zs] ++ [iZ [0]]) = _ from ad, bind_ok]
    simp only [Ss.ev, S.ev, Hs.ev, E.ev, Es.ev, T.ev, Pt.put, Pts.put, Pts.len, Es.len, Oe.ev, It.ev, bind_ok, bind_err, bind_bad, th_ok, th_err, th_bad, nxth, retth, errth, badth, noerr_ok, fin_nx, fin_ret, fin_err, tidy_same, tidyX_same, List.getElem?_cons_zero, List.getElem?_cons_succ, List.set_cons_zero, List.set_cons_succ, m1]
  rw [s1, nxth]
  have s2 : S.ev (run fns sub w d) sub w (.ret (.bi .tuple (.cons (.slc (.var 0) .none (.some (.var 1))) .nil))) none [some x, some (.int ((tl xs xs.length : Nat) : Int)), none] (h' ++ [iZ zs] ++ [iZ [0]] ++ [iZ (zs ++ [0])]) = .ret (tZ (trimZ xs)) (h' ++ t) := by
    simp only [Ss.ev, S.ev, Hs.ev, E.ev, Es.ev, T.ev, Pt.put, Pts.put, Pts.len, Es.len, Oe.ev, It.ev, bind_ok, bind_err, bind_bad, th_ok, th_err, th_bad, nxth, retth, errth, badth, noerr_ok, fin_nx, fin_ret, fin_err, tidy_same, tidyX_same, List.getElem?_cons_zero, List.getElem?_cons_succ, List.set_cons_zero, List.set_cons_succ]
    cases hs : slice x none (some ((tl xs xs.length : Nat) : Int)) (h' ++ [iZ zs] ++ [iZ [0]] ++ [iZ (zs ++ [0])]) with
    | ok y h2 =>
      rw [hs] at ft
      simp only [bind_ok] at ft ⊢
      rw [ft, th_ok]
    | err a b c => rw [hs] at ft; cases ft
    | bad => rw [hs] at ft; cases ft
  rw [s2, retth, fin_ret]
  exact tidy_cl cl _ _ (iZ_unders _ _)
end
end Sh
set_option linter.all false
set_option autoImplicit false
set_option maxRecDepth 100000
set_option maxHeartbeats 8000000
/-! Sh, part Y: products and rests put together by a law; two values told alike; refusals of polynomials. -/
namespace Sh
open PySem
def P_law_made_1 : Pt := (.tup (.cons (.v 8) (.cons (.v 9) .nil)))
def L_law_made_2 : Ss := (.cons (.augi (.var 3) (.var 8) .add (.var 9)) .nil)
def P_law_made_3 : Pt := (.tup (.cons (.v 4) (.cons (.v 5) .nil)))
def P_law_made_4 : Pt := (.tup (.cons (.v 6) (.cons (.v 7) .nil)))
def L_law_made_5 : Ss := (.cons (.augi (.var 3) (.bin .add (.var 4) (.var 6)) .add (.bin .mul (.var 5) (.var 7))) .nil)
def L_law_made_6 : Ss := (.cons (.for_ P_law_made_4 (.enum (.var 1)) L_law_made_5) .nil)
def F_law_made (j_law_cut : Nat) : Fn := ⟨10, 3, (.cons (.asg (.v 3) (.bin .mul (.lst (.cons (.con (.int 0)) .nil)) (.bin .add (.bin .add (.bi .len (.cons (.var 0) .nil)) (.bi .len (.cons (.var 1) .nil))) (.bi .len (.cons (.var 2) .nil))))) (.cons (.for_ P_law_made_3 (.enum (.var 0)) L_law_made_6) (.cons (.for_ P_law_made_1 (.enum (.var 2)) L_law_made_2) (.cons (.ret (.call j_law_cut (.cons (.var 3) .nil))) .nil))))⟩
def F_law_is : Fn := ⟨2, 2, (.cons (.ret (.cmp .eq (.bi .repr (.cons (.var 0) .nil)) (.bi .repr (.cons (.var 1) .nil)))) .nil)⟩

theorem gI_set (xs : List Int) (i : Nat) (v : Int) (k : Nat) : gI (xs.set i v) k = if k = i ∧ i < xs.length then v else gI xs k := by
  unfold gI
  rw [List.getD_eq_getElem?_getD, List.getElem?_set, List.getD_eq_getElem?_getD]
  by_cases h : i = k
  · subst h
    by_cases h2 : i < xs.length
    · simp [h2]
    · simp [h2]
  · rw [if_neg h, if_neg (fun z => h z.1.symm)]
section
variable {fns : Nat → Option Fn} {sub : Nat → Str → Option Bool} {w : Nat} {h : Hc}
def stM (q o r : List Int) (n : Nat) (x4 x5 x6 x7 x8 x9 : Option C) : Sl := [some (tZ q), some (tZ o), some (tZ r), some (.ref (n + 1)), x4, x5, x6, x7, x8, x9]
def hpM (h : Hc) (R : List Int) : Hc := h ++ [iZ [0]] ++ [iZ R]
theorem hpM1 (R : List Int) : (hpM h R)[h.length + 1]? = some (iZ R) := by simp [hpM]
theorem hpMS (R R' : List Int) : (hpM h R).set (h.length + 1) (iZ R') = hpM h R' := by simp [hpM, List.set_append]
theorem put2 {call : Nat → List C → Hc → R C} {cx : Option (Nat × List C)} (i j : Nat) (x y : C) (sl : Sl) : Pt.put call sub w cx (.tup (.cons (.v i) (.cons (.v j) .nil))) (.tup [x, y]) sl h = .ok ((sl.set i (some x)).set j (some y)) h := rfl
theorem made_in (d : Nat) (q o r R : List Int) (x : Int) (s : Nat) (x6 x7 x8 x9 : Option C) (hR : s + o.length ≤ R.length) (bx : Bd 400 x) (bo : ∀ y ∈ o, Bd 400 y) (hw : 1000 < w) (ho : o.length ≤ 100) :
    ∃ x6' x7', forF (.ent (iZ o)) (Pt.put (run fns sub w d) sub w none P_law_made_4) (Ss.ev (run fns sub w d) sub w L_law_made_5 none) w 0 (stM q o r h.length (some (.int (s : Int))) (some (.int x)) x6 x7 x8 x9) (hpM h R)
      = .nx (stM q o r h.length (some (.int (s : Int))) (some (.int x)) x6' x7' x8 x9) (hpM h (stepL R o (-x) R.length s o.length)) := by
  obtain ⟨sl', h', l1, ⟨x6', x7', l2⟩, l3⟩ := forF_gen (it := .ent (iZ o)) (n := o.length) (el := fun i => .tup [.int (i : Int), .int (gI o i)]) (g := Pt.put (run fns sub w d) sub w none P_law_made_4) (b := Ss.ev (run fns sub w d) sub w L_law_made_5 none)
      (fun j sl h' => (∃ x6 x7, sl = stM q o r h.length (some (.int (s : Int))) (some (.int x)) x6 x7 x8 x9) ∧ h' = hpM h (stepL R o (-x) R.length s j))
      (fun i _ h' _ _ => at_entI o i h') (fun j sl h' ⟨⟨x6, x7, a1⟩, a2⟩ hj => by
        subst a1 a2
        have e0 : (s : Int) + (j : Int) = ((s + j : Nat) : Int) := by omega
        have i1 : item (.ref (h.length + 1)) (.int ((s + j : Nat) : Int)) (hpM h (stepL R o (-x) R.length s j)) = .ok (.int (gI R (s + j))) (hpM h (stepL R o (-x) R.length s j)) := by
          rw [item_iZ (s + j) (seq_ref (hpM1 _)) (by rw [stepL_len]; omega), stepL_at _ _ _ _ _ _ (by omega)]
        have m1 := mul_of (i := x) (j := gI o j) bx (gI_mem (P := Bd 400) bo (bd0 _) j) (by decide) (by decide)
        have se : setitem (.ref (h.length + 1)) (.int ((s + j : Nat) : Int)) (.int (gI R (s + j) + x * gI o j)) (hpM h (stepL R o (-x) R.length s j)) = .ok () (hpM h (stepL R o (-x) R.length s (j + 1))) := by
          rw [setitem_iZ (hpM1 _) (by rw [stepL_len]; omega), hpMS, ← stepL_set _ _ _ _ _ _ (show s + j < R.length by omega), Int.neg_mul, Int.sub_neg]
        refine ⟨stM q o r h.length (some (.int (s : Int))) (some (.int x)) (some (.int (j : Int))) (some (.int (gI o j))) x8 x9, hpM h (stepL R o (-x) R.length s j), stM q o r h.length (some (.int (s : Int))) (some (.int x)) (some (.int (j : Int))) (some (.int (gI o j))) x8 x9, hpM h (stepL R o (-x) R.length s (j + 1)), rfl, .inl ?_, ⟨⟨_, _, rfl⟩, rfl⟩⟩
        simp only [L_law_made_5, stM, Ss.ev, S.ev, Hs.ev, E.ev, Es.ev, T.ev, Pt.put, Pts.put, Pts.len, Es.len, Oe.ev, It.ev, bind_ok, bind_err, bind_bad, th_ok, th_err, th_bad, nxth, retth, errth, badth, noerr_ok, fin_nx, fin_ret, fin_err, tidy_same, tidyX_same, List.getElem?_cons_zero, List.getElem?_cons_succ, List.set_cons_zero, List.set_cons_succ, add_int, e0, i1, bin_mul', m1, aug_add, se]) w 0 (stM q o r h.length (some (.int (s : Int))) (some (.int x)) x6 x7 x8 x9) (hpM h R) ⟨⟨_, _, rfl⟩, by rw [stepL_zero]⟩ (Nat.zero_le _) (by omega)
  exact ⟨x6', x7', by rw [l1, l2, l3]⟩
theorem made_out (d : Nat) (q o r R : List Int) (y4 y5 y6 y7 x8 x9 : Option C) (hR : q.length + o.length ≤ R.length) (h0 : ∀ k, gI R k = 0) (bq : ∀ y ∈ q, Bd 400 y) (bo : ∀ y ∈ o, Bd 400 y) (hw : 1000 < w) (hq : q.length ≤ 100) (ho : o.length ≤ 100) :
    ∃ x4 x5 x6 x7 R', forF (.ent (iZ q)) (Pt.put (run fns sub w d) sub w none P_law_made_3) (Ss.ev (run fns sub w d) sub w L_law_made_6 none) w 0 (stM q o r h.length y4 y5 y6 y7 x8 x9) (hpM h R) = .nx (stM q o r h.length x4 x5 x6 x7 x8 x9) (hpM h R')
      ∧ R'.length = R.length ∧ ∀ k, k < R.length → gI R' k = cv q (gI o) k := by
  obtain ⟨sl', h', l1, ⟨x4, x5, x6, x7, R', l2, l3, l4⟩, l5⟩ := forF_gen (it := .ent (iZ q)) (n := q.length) (el := fun i => .tup [.int (i : Int), .int (gI q i)]) (g := Pt.put (run fns sub w d) sub w none P_law_made_3) (b := Ss.ev (run fns sub w d) sub w L_law_made_6 none)
      (fun j sl h' => (∃ x4 x5 x6 x7 R', sl = stM q o r h.length x4 x5 x6 x7 x8 x9 ∧ h' = hpM h R' ∧ R'.length = R.length ∧ ∀ k, k < R.length → gI R' k = cvF (gI q) (gI o) k j) ∧ True)
      (fun i _ h' _ _ => at_entI q i h') (fun j sl h' ⟨⟨x4, x5, x6, x7, R', a1, a2, a3, a4⟩, _⟩ hj => by
        subst a1 a2
        obtain ⟨x6', x7', il⟩ := made_in (fns := fns) (sub := sub) (w := w) (h := h) d q o r R' (gI q j) j x6 x7 x8 x9 (by omega) (gI_mem (P := Bd 400) bq (bd0 _) j) bo hw ho
        refine ⟨stM q o r h.length (some (.int (j : Int))) (some (.int (gI q j))) x6 x7 x8 x9, hpM h R', stM q o r h.length (some (.int (j : Int))) (some (.int (gI q j))) x6' x7' x8 x9, hpM h (stepL R' o (-gI q j) R'.length j o.length), rfl, .inl ?_, ⟨⟨_, _, _, _, _, rfl, rfl, by rw [stepL_len, a3], fun k hk => ?_⟩, trivial⟩⟩
        · unfold L_law_made_6
          rw [ss_cons, S.ev]
          rw [show It.ev (run fns sub w d) sub w none (.enum (.var 1)) (stM q o r h.length (some (.int (j : Int))) (some (.int (gI q j))) x6 x7 x8 x9) (hpM h R') = .ok (.ent (iZ o)) (hpM h R') from rfl, th_ok, il, nxth, ss_nil]
        · rw [stepL_get, if_pos (show k < R'.length by omega), a4 k hk]
          show _ = cvF (gI q) (gI o) k j + gI q j * shf j (gI o) k
          unfold shf
          by_cases h1 : k < j
          · rw [if_neg (show ¬ (j ≤ k ∧ k < j + o.length) by omega), if_pos h1]; simp
          · rw [if_neg h1]
            by_cases h2 : k < j + o.length
            · rw [if_pos (show j ≤ k ∧ k < j + o.length by omega), Int.neg_mul]; omega
            · rw [if_neg (show ¬ (j ≤ k ∧ k < j + o.length) by omega), getD_big (show o.length ≤ k - j by omega)]; simp) w 0 (stM q o r h.length y4 y5 y6 y7 x8 x9) (hpM h R) ⟨⟨_, _, _, _, R, rfl, rfl, rfl, fun k _ => h0 k⟩, trivial⟩ (Nat.zero_le _) (by omega)
  refine ⟨x4, x5, x6, x7, R', by rw [l1, l2, l3], l4.1, fun k hk => ?_⟩
  rw [l4.2 k hk, cv_cvF]
theorem made_add (d : Nat) (q o r R : List Int) (x4 x5 x6 x7 y8 y9 : Option C) (hR : r.length ≤ R.length) (hw : 1000 < w) (hr : r.length ≤ 100) :
    ∃ x8 x9 R', forF (.ent (iZ r)) (Pt.put (run fns sub w d) sub w none P_law_made_1) (Ss.ev (run fns sub w d) sub w L_law_made_2 none) w 0 (stM q o r h.length x4 x5 x6 x7 y8 y9) (hpM h R) = .nx (stM q o r h.length x4 x5 x6 x7 x8 x9) (hpM h R')
      ∧ R'.length = R.length ∧ ∀ k, gI R' k = gI R k + gI r k := by
  obtain ⟨sl', h', l1, ⟨x8, x9, R', l2, l3, l4⟩, l5⟩ := forF_gen (it := .ent (iZ r)) (n := r.length) (el := fun i => .tup [.int (i : Int), .int (gI r i)]) (g := Pt.put (run fns sub w d) sub w none P_law_made_1) (b := Ss.ev (run fns sub w d) sub w L_law_made_2 none)
      (fun j sl h' => (∃ x8 x9 R', sl = stM q o r h.length x4 x5 x6 x7 x8 x9 ∧ h' = hpM h R' ∧ R'.length = R.length ∧ ∀ k, gI R' k = gI R k + (if k < j then gI r k else 0)) ∧ True)
      (fun i _ h' _ _ => at_entI r i h') (fun j sl h' ⟨⟨x8, x9, R', a1, a2, a3, a4⟩, _⟩ hj => by
        subst a1 a2
        have i1 : item (.ref (h.length + 1)) (.int (j : Int)) (hpM h R') = .ok (.int (gI R' j)) (hpM h R') := item_iZ j (seq_ref (hpM1 _)) (by omega)
        have se : setitem (.ref (h.length + 1)) (.int (j : Int)) (.int (gI R' j + gI r j)) (hpM h R') = .ok () (hpM h (R'.set j (gI R' j + gI r j))) := by
          rw [setitem_iZ (hpM1 _) (by omega), hpMS]
        refine ⟨stM q o r h.length x4 x5 x6 x7 (some (.int (j : Int))) (some (.int (gI r j))), hpM h R', stM q o r h.length x4 x5 x6 x7 (some (.int (j : Int))) (some (.int (gI r j))), hpM h (R'.set j (gI R' j + gI r j)), rfl, .inl ?_, ⟨⟨_, _, _, rfl, rfl, by simp [a3], fun k => ?_⟩, trivial⟩⟩
        · simp only [L_law_made_2, stM, Ss.ev, S.ev, Hs.ev, E.ev, Es.ev, T.ev, Pt.put, Pts.put, Pts.len, Es.len, Oe.ev, It.ev, bind_ok, bind_err, bind_bad, th_ok, th_err, th_bad, nxth, retth, errth, badth, noerr_ok, fin_nx, fin_ret, fin_err, tidy_same, tidyX_same, List.getElem?_cons_zero, List.getElem?_cons_succ, List.set_cons_zero, List.set_cons_succ, i1, aug_add, se]
        · rw [gI_set, a4 k]
          by_cases h1 : k = j
          · rw [if_pos ⟨h1, by omega⟩, h1, a4 j, if_neg (by omega), if_pos (by omega)]; omega
          · rw [if_neg (fun z => h1 z.1)]
            by_cases h2 : k < j
            · rw [if_pos h2, if_pos (show k < j + 1 by omega)]
            · rw [if_neg h2, if_neg (show ¬ k < j + 1 by omega)]) w 0 (stM q o r h.length x4 x5 x6 x7 y8 y9) (hpM h R) ⟨⟨_, _, R, rfl, rfl, rfl, fun k => by simp⟩, trivial⟩ (Nat.zero_le _) (by omega)
  refine ⟨x8, x9, R', by rw [l1, l2, l3], l4.1, fun k => ?_⟩
  rw [l4.2 k]
  by_cases h1 : k < r.length
  · rw [if_pos h1]
  · rw [if_neg h1, getD_big (show r.length ≤ k by omega)]
theorem gI_zeros (n k : Nat) : gI (List.replicate n 0) k = 0 := by
  unfold gI
  rw [List.getD_eq_getElem?_getD, List.getElem?_replicate]
  split <;> rfl
theorem flat_zero (n : Nat) : (List.replicate n (iZ [0])).flatten = iZ (List.replicate n 0) := by
  induction n with
  | zero => rfl
  | succ n ih => rw [List.replicate_succ, List.flatten_cons, ih, List.replicate_succ]; rfl
theorem made_run {i j : Nat} (e : fns i = some (F_law_made j)) (e1 : fns j = some F_law_cut) (hw : 1000 < w) (d : Nat) (cl : ClH h) (q o r : List Int) (bq : ∀ y ∈ q, Bd 400 y) (bo : ∀ y ∈ o, Bd 400 y) (hq : q.length ≤ 100) (ho : o.length ≤ 100) (hr : r.length ≤ 100) :
    ∃ M, (∀ k, gI M k = cv q (gI o) k + gI r k) ∧ run fns sub w (d + 2) i [tZ q, tZ o, tZ r] h = .ok (tZ (trimZ M)) h := by
  let N := q.length + o.length + r.length
  obtain ⟨x4, x5, x6, x7, R1, a1, a2, a3⟩ := made_out (fns := fns) (sub := sub) (w := w) (h := h) (d + 1) q o r (List.replicate N 0) none none none none none none (by rw [List.length_replicate]; simp only [N]; omega) (gI_zeros N) bq bo hw hq ho
  obtain ⟨x8, x9, R2, b1, b2, b3⟩ := made_add (fns := fns) (sub := sub) (w := w) (h := h) (d + 1) q o r R1 x4 x5 x6 x7 none none (by rw [a2]; simp [N]) hw hr
  have cl2 : ClH (hpM h R2) := cl_push (cl_push cl (iZ_unders _ _)) (iZ_unders _ _)
  have ct := cut_run (sub := sub) (w := w) e1 hw d (hpM h R2) cl2 (.ref (h.length + 1)) R2 (seq_ref (hpM1 R2)) (.inr ⟨_, rfl⟩) (by rw [b2, a2]; simp [N]; omega)
  refine ⟨R2, fun k => ?_, ?_⟩
  · rw [b3]
    by_cases hk : k < N
    · rw [a3 k (by simpa using hk)]
    · rw [getD_big (show R1.length ≤ k by rw [a2]; simp; omega), cv_high q (gI o) o.length k (fun i hi => getD_big (by omega)) (by simp [N] at hk; omega)]
  · rw [un e _ _ _ rfl (of_decide_eq_true rfl)]
    simp only [F_law_made, List.map_cons, List.map_nil, List.replicate, List.cons_append, List.nil_append, Nat.reduceSub, ss_cons, ss_nil]
    have m0 : mulC (.ref h.length) (.int ((q.length : Int) + (o.length : Int) + (r.length : Int))) (h ++ [iZ [0]]) = .ok (.ref (h.length + 1)) (hpM h (List.replicate N 0)) := by
      show (match (h ++ [iZ [0]])[h.length]? with
        | some xs => if (q.length : Int) + (o.length : Int) + (r.length : Int) < 0 ∨ lineN < xs.length * ((q.length : Int) + (o.length : Int) + (r.length : Int)).toNat ∨ 1000000000 ≤ (q.length : Int) + (o.length : Int) + (r.length : Int) then R.bad else .ok (C.ref (h ++ [iZ [0]]).length) (h ++ [iZ [0]] ++ [(List.replicate ((q.length : Int) + (o.length : Int) + (r.length : Int)).toNat xs).flatten])
        | _ => .bad) = _
      rw [last_get]
      have en : ((q.length : Int) + (o.length : Int) + (r.length : Int)).toNat = N := by simp only [N]; omega
      dsimp only
      rw [en, flat_zero, if_neg]
      · simp [hpM]
      · rintro (z | z | z)
        · omega
        · rw [iZ_len] at z
          have : lineN = 1000000 := rfl
          simp [N] at z
          omega
        · omega
    have s1 : S.ev (run fns sub w (d + 1)) sub w (.asg (.v 3) (.bin .mul (.lst (.cons (.con (.int 0)) .nil)) (.bin .add (.bin .add (.bi .len (.cons (.var 0) .nil)) (.bi .len (.cons (.var 1) .nil))) (.bi .len (.cons (.var 2) .nil))))) none [some (tZ q), some (tZ o), some (tZ r), none, none, none, none, none, none, none] h = .nx (stM q o r h.length none none none none none none) (hpM h (List.replicate N 0)) := by
      have ll : ([C.int 0] : List C).length ≤ lineN := by show 1 ≤ lineN; decide
      simp only [Ss.ev, S.ev, Hs.ev, E.ev, Es.ev, T.ev, Pt.put, Pts.put, Pts.len, Es.len, Oe.ev, It.ev, bind_ok, bind_err, bind_bad, th_ok, th_err, th_bad, nxth, retth, errth, badth, noerr_ok, fin_nx, fin_ret, fin_err, tidy_same, tidyX_same, List.getElem?_cons_zero, List.getElem?_cons_succ, List.set_cons_zero, List.set_cons_succ, if_pos ll, len_tZ, add_int, bin_mul']
      rw [show (h ++ [[C.int 0]]) = h ++ [iZ [0]] from rfl, m0]
      rfl
    rw [s1, nxth]
    have s2 : S.ev (run fns sub w (d + 1)) sub w (.for_ P_law_made_3 (.enum (.var 0)) L_law_made_6) none (stM q o r h.length none none none none none none) (hpM h (List.replicate N 0)) = .nx (stM q o r h.length x4 x5 x6 x7 none none) (hpM h R1) := by
      rw [S.ev]
      exact a1
    rw [s2, nxth]
    have s3 : S.ev (run fns sub w (d + 1)) sub w (.for_ P_law_made_1 (.enum (.var 2)) L_law_made_2) none (stM q o r h.length x4 x5 x6 x7 none none) (hpM h R1) = .nx (stM q o r h.length x4 x5 x6 x7 x8 x9) (hpM h R2) := by
      rw [S.ev]
      exact b1
    rw [s3, nxth]
    simp only [stM, Ss.ev, S.ev, Hs.ev, E.ev, Es.ev, T.ev, Pt.put, Pts.put, Pts.len, Es.len, Oe.ev, It.ev, bind_ok, bind_err, bind_bad, th_ok, th_err, th_bad, nxth, retth, errth, badth, noerr_ok, fin_nx, fin_ret, fin_err, tidy_same, tidyX_same, List.getElem?_cons_zero, List.getElem?_cons_succ, List.set_cons_zero, List.set_cons_succ, ct]
    have := tidy_cl cl (tZ (trimZ R2)) ([iZ [0]] ++ [iZ R2]) (iZ_unders _ _)
    rw [← List.append_assoc] at this
    exact this
theorem is_run {i : Nat} (e : fns i = some F_law_is) (d : Nat) (c : C) (dp wt : Nat) (f : Fit c dp wt) (h1 : dp ≤ 50) (h2 : wt ≤ 8000) : run fns sub w (d + 1) i [c, c] h = .ok (.bl true) h := by
  rw [un e _ _ _ rfl (of_decide_eq_true rfl)]
  have r := repr_fit f h1 h2 h
  have q := eq_rep f.h h
  simp only [F_law_is, List.map_cons, List.map_nil, List.replicate, List.cons_append, List.nil_append, Nat.reduceSub, Ss.ev, S.ev, Hs.ev, E.ev, Es.ev, T.ev, Pt.put, Pts.put, Pts.len, Es.len, Oe.ev, It.ev, bind_ok, bind_err, bind_bad, th_ok, th_err, th_bad, nxth, retth, errth, badth, noerr_ok, fin_nx, fin_ret, fin_err, tidy_same, tidyX_same, List.getElem?_cons_zero, List.getElem?_cons_succ, List.set_cons_zero, List.set_cons_succ, r, q]
/-! ### polynomials told and refused -/
theorem isPoly_mk {xs : List Int} (hl : xs.length ≤ 13) (hx : ∀ x ∈ xs, x.natAbs ≤ 1000000) (ht : Trim xs) : isPoly (tZ xs) = true := by
  show (decide ((iZ xs).length ≤ 13) && ((iZ xs).all okN && lastOk (iZ xs))) = true
  have h1 : (iZ xs).all okN = true := List.all_eq_true.mpr fun c hc => by
    obtain ⟨x, hx', rfl⟩ := List.mem_map.mp hc
    exact decide_eq_true (hx x hx')
  have h2 : lastOk (iZ xs) = true := by
    unfold lastOk
    rw [iZ_len, iZ_get]
    rcases ht with rfl | ht
    · rfl
    · by_cases z : xs.length = 0
      · have : xs = [] := List.eq_nil_of_length_eq_zero z
        rw [this]; rfl
      · rw [gI_of (by omega)]
        exact bne_iff_ne.mpr ht
  rw [h1, h2, iZ_len, decide_eq_true hl]; rfl
theorem check_monic_run {i x0 : Nat} (e : fns i = some (F_check_monic x0)) (d : Nat) (h : Hc) (xs : List Int) : run fns sub w (d + 1) i [tZ xs] h = if 2 ≤ xs.length ∧ gI xs (xs.length - 1) = 1 then .ok .non h else .err x0 [] h := by
  rw [un e _ _ _ rfl (of_decide_eq_true rfl)]
  simp only [F_check_monic, List.map_cons, List.map_nil, List.replicate, List.cons_append, List.nil_append, Nat.reduceSub]
  by_cases h1 : 2 ≤ xs.length
  · have it := item_last (seq_tZ h xs) (by omega)
    have h1' : ¬ ((xs.length : Int) < 2) := by omega
    by_cases h2 : gI xs (xs.length - 1) = 1
    · rw [if_pos ⟨h1, h2⟩]
      simp [Ss.ev, S.ev, Hs.ev, E.ev, Es.ev, T.ev, Pt.put, Pts.put, Pts.len, Es.len, Oe.ev, It.ev, bind_ok, bind_err, bind_bad, th_ok, th_err, th_bad, nxth, retth, errth, badth, noerr_ok, fin_nx, fin_ret, fin_err, tidy_same, tidyX_same, List.getElem?_cons_zero, List.getElem?_cons_succ, List.set_cons_zero, List.set_cons_succ, len_tZ, lt_i, h1', it, ne_int, h2]
    · rw [if_neg (fun z => h2 z.2)]
      simp [Ss.ev, S.ev, Hs.ev, E.ev, Es.ev, T.ev, Pt.put, Pts.put, Pts.len, Es.len, Oe.ev, It.ev, bind_ok, bind_err, bind_bad, th_ok, th_err, th_bad, nxth, retth, errth, badth, noerr_ok, fin_nx, fin_ret, fin_err, tidy_same, tidyX_same, List.getElem?_cons_zero, List.getElem?_cons_succ, List.set_cons_zero, List.set_cons_succ, len_tZ, lt_i, h1', it, ne_int, h2]
  · have h1' : (xs.length : Int) < 2 := by omega
    rw [if_neg (fun z => h1 z.1)]
    simp [Ss.ev, S.ev, Hs.ev, E.ev, Es.ev, T.ev, Pt.put, Pts.put, Pts.len, Es.len, Oe.ev, It.ev, bind_ok, bind_err, bind_bad, th_ok, th_err, th_bad, nxth, retth, errth, badth, noerr_ok, fin_nx, fin_ret, fin_err, tidy_same, tidyX_same, List.getElem?_cons_zero, List.getElem?_cons_succ, List.set_cons_zero, List.set_cons_succ, len_tZ, lt_i, h1']
structure PD (fns : Nat → Option Fn) (i x0 x1 : Nat) : Prop where
  ex : ∃ jd jm jc jp ji jt, fns i = some (F_poly_divided jd jm jc) ∧ fns jd = some (F_divided jt) ∧ fns jt = some F_trimmed ∧ fns jm = some (F_check_monic x1) ∧ fns jc = some (F_check_polynomial jp x0) ∧ fns jp = some (F_is_polynomial ji) ∧ fns ji = some F_is_integer
section
variable {i x0 x1 : Nat} (P : PD fns i x0 x1) (hw : 1000 < w)
include P hw
theorem pd_bad1 (d : Nat) (h : Hc) (x y : C) (hx : isPoly x = false) : run fns sub w (d + 5) i [x, y] h = .err x0 [x] h := by
  obtain ⟨jd, jm, jc, jp, ji, jt, e1, e2, e3, e4, e5, e6, e7⟩ := P.ex
  rw [un e1 _ _ _ rfl (of_decide_eq_true rfl)]
  have c1 : run fns sub w (d + 4) jc [x] h = if isPoly x then .ok .non h else .err x0 [x] h := check_polynomial_run (sub := sub) e5 e6 e7 hw (d + 1) h _
  rw [hx] at c1
  simp only [F_poly_divided, List.map_cons, List.map_nil, List.replicate, List.cons_append, List.nil_append, Nat.reduceSub, Ss.ev, S.ev, Hs.ev, E.ev, Es.ev, T.ev, Pt.put, Pts.put, Pts.len, Es.len, Oe.ev, It.ev, bind_ok, bind_err, bind_bad, th_ok, th_err, th_bad, nxth, retth, errth, badth, noerr_ok, fin_nx, fin_ret, fin_err, tidy_same, tidyX_same, List.getElem?_cons_zero, List.getElem?_cons_succ, List.set_cons_zero, List.set_cons_succ, c1, Bool.false_eq_true, if_false]
theorem pd_bad2 (d : Nat) (h : Hc) (x y : C) (hx : isPoly x = true) (hy : isPoly y = false) : run fns sub w (d + 5) i [x, y] h = .err x0 [y] h := by
  obtain ⟨jd, jm, jc, jp, ji, jt, e1, e2, e3, e4, e5, e6, e7⟩ := P.ex
  rw [un e1 _ _ _ rfl (of_decide_eq_true rfl)]
  have c1 : run fns sub w (d + 4) jc [x] h = if isPoly x then .ok .non h else .err x0 [x] h := check_polynomial_run (sub := sub) e5 e6 e7 hw (d + 1) h _
  have c2 : run fns sub w (d + 4) jc [y] h = if isPoly y then .ok .non h else .err x0 [y] h := check_polynomial_run (sub := sub) e5 e6 e7 hw (d + 1) h _
  rw [hx] at c1
  rw [hy] at c2
  simp only [F_poly_divided, List.map_cons, List.map_nil, List.replicate, List.cons_append, List.nil_append, Nat.reduceSub, Ss.ev, S.ev, Hs.ev, E.ev, Es.ev, T.ev, Pt.put, Pts.put, Pts.len, Es.len, Oe.ev, It.ev, bind_ok, bind_err, bind_bad, th_ok, th_err, th_bad, nxth, retth, errth, badth, noerr_ok, fin_nx, fin_ret, fin_err, tidy_same, tidyX_same, List.getElem?_cons_zero, List.getElem?_cons_succ, List.set_cons_zero, List.set_cons_succ, c1, c2, Bool.false_eq_true, if_false, if_true]
theorem pd_bad3 (d : Nat) (h : Hc) (x : C) (ys : List Int) (hx : isPoly x = true) (hy : isPoly (tZ ys) = true) (hm : ¬ (2 ≤ ys.length ∧ gI ys (ys.length - 1) = 1)) : run fns sub w (d + 5) i [x, tZ ys] h = .err x1 [] h := by
  obtain ⟨jd, jm, jc, jp, ji, jt, e1, e2, e3, e4, e5, e6, e7⟩ := P.ex
  rw [un e1 _ _ _ rfl (of_decide_eq_true rfl)]
  have c1 : run fns sub w (d + 4) jc [x] h = if isPoly x then .ok .non h else .err x0 [x] h := check_polynomial_run (sub := sub) e5 e6 e7 hw (d + 1) h _
  have c2 : run fns sub w (d + 4) jc [(tZ ys)] h = if isPoly (tZ ys) then .ok .non h else .err x0 [(tZ ys)] h := check_polynomial_run (sub := sub) e5 e6 e7 hw (d + 1) h _
  have c3 := check_monic_run (sub := sub) (w := w) e4 (d + 3) h ys
  rw [hx] at c1
  rw [hy] at c2
  rw [if_neg hm] at c3
  simp only [F_poly_divided, List.map_cons, List.map_nil, List.replicate, List.cons_append, List.nil_append, Nat.reduceSub, Ss.ev, S.ev, Hs.ev, E.ev, Es.ev, T.ev, Pt.put, Pts.put, Pts.len, Es.len, Oe.ev, It.ev, bind_ok, bind_err, bind_bad, th_ok, th_err, th_bad, nxth, retth, errth, badth, noerr_ok, fin_nx, fin_ret, fin_err, tidy_same, tidyX_same, List.getElem?_cons_zero, List.getElem?_cons_succ, List.set_cons_zero, List.set_cons_succ, c1, c2, c3, if_true]
theorem pd_ok (d : Nat) {h : Hc} (cl : ClH h) (W lows : List Int) (hx : isPoly (tZ W) = true) (hy : isPoly (tZ (lows ++ [1])) = true) (h1 : 1 ≤ lows.length) (hW : W.length ≤ 30) (hl : lows.length ≤ 30) (bW : ∀ x ∈ W, Bd 20 x) (bl : ∀ x ∈ lows, Bd 5 x) :
    ∃ q r, Dv W lows 20 q r ∧ run fns sub w (d + 5) i [tZ W, tZ (lows ++ [1])] h = .ok (.tup [tZ q, tZ (trimZ r)]) h := by
  obtain ⟨jd, jm, jc, jp, ji, jt, e1, e2, e3, e4, e5, e6, e7⟩ := P.ex
  obtain ⟨q, r, D, dr⟩ := divided_run (sub := sub) (w := w) e2 e3 hw (d + 2) cl W lows 20 hW hl (by decide) bW bl
  refine ⟨q, r, D, ?_⟩
  rw [un e1 _ _ _ rfl (of_decide_eq_true rfl)]
  have c1 : run fns sub w (d + 4) jc [(tZ W)] h = if isPoly (tZ W) then .ok .non h else .err x0 [(tZ W)] h := check_polynomial_run (sub := sub) e5 e6 e7 hw (d + 1) h _
  have c2 : run fns sub w (d + 4) jc [(tZ (lows ++ [1]))] h = if isPoly (tZ (lows ++ [1])) then .ok .non h else .err x0 [(tZ (lows ++ [1]))] h := check_polynomial_run (sub := sub) e5 e6 e7 hw (d + 1) h _
  have c3 := check_monic_run (sub := sub) (w := w) e4 (d + 3) h (lows ++ [1])
  rw [hx] at c1
  rw [hy] at c2
  rw [if_pos ⟨by simp; omega, by rw [gI_monic]; simpa using mo_top lows⟩] at c3
  simp only [F_poly_divided, List.map_cons, List.map_nil, List.replicate, List.cons_append, List.nil_append, Nat.reduceSub, Ss.ev, S.ev, Hs.ev, E.ev, Es.ev, T.ev, Pt.put, Pts.put, Pts.len, Es.len, Oe.ev, It.ev, bind_ok, bind_err, bind_bad, th_ok, th_err, th_bad, nxth, retth, errth, badth, noerr_ok, fin_nx, fin_ret, fin_err, tidy_same, tidyX_same, List.getElem?_cons_zero, List.getElem?_cons_succ, List.set_cons_zero, List.set_cons_succ, c1, c2, c3, if_true, dr]
end
end
end Sh
set_option linter.all false
set_option autoImplicit false
set_option maxRecDepth 100000
set_option maxHeartbeats 16000000
/-! Sh, part D2: pots, draws and lists due, as the laws k10 to k14 have them. -/
namespace Sh
open PySem
def F_law_pot : Fn := ⟨4, 2, (.cons (.asg (.v 2) (.ite (.cmp .lt (.var 1) (.bi .len (.cons (.var 0) .nil))) (.bi .abs (.cons (.idx (.var 0) (.var 1)) .nil)) (.bin .add (.bin .add (.bin .mul (.con (.int 613)) (.var 1)) (.con (.int 29))) (.bin .mod (.bi .sum (.cons (.slc (.var 0) .none (.some (.con (.int 1)))) .nil)) (.con (.int 1000003)))))) (.cons (.asg (.v 3) (.bin .add (.bin .mod (.bin .add (.bin .add (.bin .mul (.bin .mod (.var 2) (.con (.int 2147483549))) (.con (.int 40014))) (.bin .mul (.con (.int 9221)) (.var 1))) (.con (.int 57))) (.con (.int 2147483563))) (.con (.int 1)))) (.cons (.ret (.lst (.cons (.bi .max2 (.cons (.con (.int 0)) (.cons (.bin .sub (.var 2) (.bin .pow (.con (.int 10)) (.con (.int 18)))) .nil))) (.cons (.var 3) .nil)))) .nil)))⟩
def F_law_draw : Fn := ⟨3, 2, (.cons (.ifs (.cmp .gt (.idx (.var 0) (.con (.int 0))) (.con (.int 0))) (.cons (.asg (.tup (.cons (.sub (.var 0) (.con (.int 0))) (.cons (.v 2) .nil))) (.bi .divmod (.cons (.idx (.var 0) (.con (.int 0))) (.cons (.var 1) .nil)))) (.cons (.ret (.var 2)) .nil)) .nil) (.cons (.asg (.sub (.var 0) (.con (.int 1))) (.bin .mod (.bin .add (.bin .mul (.idx (.var 0) (.con (.int 1))) (.con (.int 39373))) (.con (.int 9209))) (.con (.int 2147483587)))) (.cons (.ret (.bin .mod (.bin .div (.bin .mod (.bin .mul (.idx (.var 0) (.con (.int 1))) (.idx (.var 0) (.con (.int 1)))) (.con (.int 2147483563))) (.con (.int 17))) (.var 1))) .nil)))⟩

/-! ### stores that a law walks through: one pot is written, all else stays -/
structure Stp (p : Nat) (h h' : Hc) : Prop where
  len : h.length ≤ h'.length
  keep : ∀ m, m < h.length → m ≠ p → h'[m]? = h[m]?
  pot : PotAt h' p
  cl : ClH h'
theorem Stp.trans {p : Nat} {h h' h2 : Hc} (a : Stp p h h') (b : Stp p h' h2) : Stp p h h2 := ⟨Nat.le_trans a.len b.len, fun m hm hp => by rw [b.keep m (Nat.lt_of_lt_of_le hm a.len) hp, a.keep m hm hp], b.pot, b.cl⟩
theorem Stp.refl {p : Nat} {h : Hc} (a : PotAt h p) (b : ClH h) : Stp p h h := ⟨Nat.le_refl _, fun _ _ _ => rfl, a, b⟩
theorem Stp.nx {p : Nat} {h h' : Hc} (a : PotAt h p) (b : ClH h) (x : Nx p h h') : Stp p h h' := ⟨Nat.le_of_eq x.len.symm, fun m _ hm => x.get hm, x.pot a, x.closed b⟩
theorem Stp.push {p : Nat} {h h' : Hc} (s : Stp p h h') {xs : List C} (hx : C.unders (h'.length + 1) xs = true) : Stp p h (h' ++ [xs]) :=
  ⟨Nat.le_trans s.len (by simp), fun m hm hp => by rw [List.getElem?_append_left (Nat.lt_of_lt_of_le hm s.len), s.keep m hm hp], s.pot.app _, cl_push s.cl hx⟩
theorem Stp.dr {p : Nat} {h h' h2 : Hc} (s : Stp p h h') (x : Nx p h' h2) : Stp p h h2 := s.trans (.nx s.pot s.cl x)
section
variable {fns : Nat → Option Fn} {sub : Nat → Str → Option Bool} {w : Nat}
theorem draw_ok {j : Nat} (e : fns j = some F_law_draw) : DrawOk fns sub w j := by
  intro d h n many p h1 h2
  have hn := p.lt
  obtain ⟨L, e0, p0, p1, rfl, q1, q2⟩ := p
  by_cases z : 0 < p0
  · refine ⟨p0 % many, h.set n [.int (p0 / many), .int p1], Int.emod_nonneg _ (by omega), Int.emod_lt_of_pos _ h1, .inr ⟨_, rfl, _, _, rfl, q1, q2⟩, ?_⟩
    rw [un e _ _ _ rfl (of_decide_eq_true rfl)]
    simp [F_law_draw, Ss.ev, S.ev, Hs.ev, E.ev, Es.ev, T.ev, Pt.put, Pts.put, Pts.len, Es.len, Oe.ev, It.ev, bind_ok, bind_err, bind_bad, th_ok, th_err, th_bad, nxth, retth, errth, badth, noerr_ok, fin_nx, fin_ret, fin_err, tidy_same, tidyX_same, List.getElem?_cons_zero, List.getElem?_cons_succ, List.set_cons_zero, List.set_cons_succ, itr0 e0, gt_i, z, divmod_int _ _ _ h1 h2, sei0 e0, tidy_len]
  · obtain ⟨f1, f2⟩ := fmod_b (p1 * 39373 + 9209) (by decide : (0 : Int) < 2147483587)
    generalize hr : (p1 * 39373 + 9209).fmod 2147483587 = r at f1 f2
    obtain ⟨f3, f4⟩ := fmod_b (((r * r).fmod 2147483563).fdiv 17) h1
    have e2 : (h.set n [.int p0, .int r])[n]? = some [.int p0, .int r] := List.getElem?_set_self hn
    have m1 := mul_of (i := p1) (j := 39373) (bd_small (by omega) (by omega)) (bd_small (by omega) (by omega)) (by decide) (by decide)
    have m2 := mul_of (i := r) (j := r) (bd_small (by omega) (by omega)) (bd_small (by omega) (by omega)) (by decide) (by decide)
    have dv := div_of (i := (r * r).fmod 2147483563) (j := 17) (b := 80) (by decide) (bd_small (by omega) (by omega)) (by decide)
    have md1 := mod_of (i := p1 * 39373 + 9209) (j := 2147483587) (by decide)
    have md2 := mod_of (i := r * r) (j := 2147483563) (by decide)
    have md3 := mod_of (i := ((r * r).fmod 2147483563).fdiv 17) (j := many) (by omega)
    rw [hr] at md1
    refine ⟨_, h.set n [.int p0, .int r], f3, f4, .inr ⟨_, rfl, _, _, rfl, f1, by omega⟩, ?_⟩
    rw [un e _ _ _ rfl (of_decide_eq_true rfl)]
    simp [F_law_draw, Ss.ev, S.ev, Hs.ev, E.ev, Es.ev, T.ev, Pt.put, Pts.put, Pts.len, Es.len, Oe.ev, It.ev, bind_ok, bind_err, bind_bad, th_ok, th_err, th_bad, nxth, retth, errth, badth, noerr_ok, fin_nx, fin_ret, fin_err, tidy_same, tidyX_same, List.getElem?_cons_zero, List.getElem?_cons_succ, List.set_cons_zero, List.set_cons_succ, itr0 e0, itr1 e0, itr1 e2, gt_i, z, sei1 e0, tidy_len, bin_mul', add_int, bin_mod', bin_div', m1, m2, dv, md1, md2, md3]
theorem sum_ref {h : Hc} {n : Nat} {ms : List Int} (e : h[n]? = some (iZ ms)) : bi .sum [.ref n] h = .ok (.int ms.sum) h := by
  show (match (h[n]?).bind intsC with
    | some ns => R.ok (C.int ns.sum) h
    | none => .bad) = _
  rw [e]
  show (match intsC (iZ ms) with
    | some ns => R.ok (C.int ns.sum) h
    | none => .bad) = _
  rw [iZ_iZ]
theorem pow18 (h : Hc) : binop .pow (.int 10) (.int 18) h = .ok (.int 1000000000000000000) h := rfl
theorem pow6 (h : Hc) : binop .pow (.int 10) (.int 6) h = .ok (.int 1000000) h := rfl
theorem max_int (h : Hc) (i j : Int) : bi .max2 [.int i, .int j] h = .ok (.int (if j > i then j else i)) h := rfl
theorem len_frz (h : Hc) (xs : List C) : bi .len [.frz xs] h = .ok (.int xs.length) h := rfl
theorem slc_frz (h : Hc) (xs : List C) (a b : Option Int) : slice (.frz xs) a b h = .ok (.ref h.length) (h ++ [cutC xs a b]) := rfl
theorem cut_iZ (ns : List Int) (a b : Option Int) : ∃ ms : List Int, cutC (iZ ns) a b = iZ ms := by
  refine ⟨(ns.drop (sIxC ns.length 0 a)).take (sIxC ns.length ns.length b - sIxC ns.length 0 a), ?_⟩
  unfold cutC
  rw [iZ_len, iZ_drop, iZ_take]
theorem len2 (a b : C) : ([a, b] : List C).length ≤ lineN := by show 2 ≤ lineN; decide
theorem pot_run {i : Nat} (e : fns i = some F_law_pot) (d : Nat) (h : Hc) (ns : List Int) (k : Nat) (hk : k < 100) (cl : ClH h) : ∃ n h', PotAt h' n ∧ ClH h' ∧ run fns sub w (d + 1) i [.frz (iZ ns), .int (k : Int)] h = .ok (.ref n) h' := by
  have key : ∀ (cell : Int), ∃ s : Int, (cell.fmod 2147483549 * 40014 + 9221 * k + 57).fmod 2147483563 + 1 = s ∧ Pot [.int (if cell - 1000000000000000000 > 0 then cell - 1000000000000000000 else 0), .int s] := fun cell => by
    obtain ⟨f3, f4⟩ := fmod_b (cell.fmod 2147483549 * 40014 + 9221 * k + 57) (by decide : (0 : Int) < 2147483563)
    exact ⟨_, rfl, _, _, rfl, by omega, by omega⟩
  have bounds : ∀ cell : Int, Bd 80 (cell.fmod 2147483549) := fun cell => by
    obtain ⟨f1, f2⟩ := fmod_b cell (by decide : (0 : Int) < 2147483549)
    exact bd_small (by omega) (by omega)
  have m2 := mul_of (i := 9221) (j := (k : Int)) (bd_small (by omega) (by omega)) (bd_small (by omega) (by omega)) (by decide) (by decide)
  have m3 := mul_of (i := 613) (j := (k : Int)) (bd_small (by omega) (by omega)) (bd_small (by omega) (by omega)) (by decide) (by decide)
  have md1 := fun (i : Int) => mod_of (i := i) (j := 2147483549) (by decide)
  have md2 := fun (i : Int) => mod_of (i := i) (j := 2147483563) (by decide)
  have md3 := fun (i : Int) => mod_of (i := i) (j := 1000003) (by decide)
  have m1 := fun (i : Int) => mul_of (j := 40014) (bounds i) (bd_small (by omega) (by omega)) (by decide) (by decide)
  rw [un e _ _ _ rfl (of_decide_eq_true rfl)]
  simp only [F_law_pot, List.map_cons, List.map_nil, List.replicate, List.cons_append, List.nil_append, Nat.reduceSub]
  by_cases z : k < ns.length
  · have zi : ((k : Int) < ((iZ ns).length : Int)) := by rw [iZ_len]; omega
    have e1 : item (.frz (iZ ns)) (.int (k : Int)) h = .ok (.int (gI ns k)) h := item_iZ k rfl z
    generalize hc : (if gI ns k < 0 then -gI ns k else gI ns k) = cell
    obtain ⟨s, s3, s1⟩ := key cell
    refine ⟨h.length, h ++ [[.int (if cell - 1000000000000000000 > 0 then cell - 1000000000000000000 else 0), .int s]], ⟨_, last_get _ _, s1⟩, cl_push cl (s1.under _), ?_⟩
    simp only [Ss.ev, S.ev, Hs.ev, E.ev, Es.ev, T.ev, Pt.put, Pts.put, Pts.len, Es.len, Oe.ev, It.ev, bind_ok, bind_err, bind_bad, th_ok, th_err, th_bad, nxth, retth, errth, badth, noerr_ok, fin_nx, fin_ret, fin_err, tidy_same, tidyX_same, List.getElem?_cons_zero, List.getElem?_cons_succ, List.set_cons_zero, List.set_cons_succ, lt_i, len_frz, zi, decide_true, if_true, e1, abs_i, hc, bin_mod', md1, bin_mul', m1, m2, add_int, md2, pow18, sub_int, max_int, s3]
    simp only [len2, if_true, Ss.ev, S.ev, Hs.ev, E.ev, Es.ev, T.ev, Pt.put, Pts.put, Pts.len, Es.len, Oe.ev, It.ev, bind_ok, bind_err, bind_bad, th_ok, th_err, th_bad, nxth, retth, errth, badth, noerr_ok, fin_nx, fin_ret, fin_err, tidy_same, tidyX_same, List.getElem?_cons_zero, List.getElem?_cons_succ, List.set_cons_zero, List.set_cons_succ]
    exact tidy_ref (Nat.le_refl _)
  · have zi : ¬ ((k : Int) < ((iZ ns).length : Int)) := by rw [iZ_len]; omega
    obtain ⟨ms, hms⟩ := cut_iZ ns none (some 1)
    have e1 := sum_ref (last_get h (iZ ms))
    generalize hc : 613 * (k : Int) + 29 + ms.sum.fmod 1000003 = cell
    obtain ⟨s, s3, s1⟩ := key cell
    refine ⟨(h ++ [iZ ms]).length, h ++ [iZ ms] ++ [[.int (if cell - 1000000000000000000 > 0 then cell - 1000000000000000000 else 0), .int s]], ⟨_, last_get _ _, s1⟩, cl_push (cl_push cl (iZ_unders _ _)) (s1.under _), ?_⟩
    simp only [Ss.ev, S.ev, Hs.ev, E.ev, Es.ev, T.ev, Pt.put, Pts.put, Pts.len, Es.len, Oe.ev, It.ev, bind_ok, bind_err, bind_bad, th_ok, th_err, th_bad, nxth, retth, errth, badth, noerr_ok, fin_nx, fin_ret, fin_err, tidy_same, tidyX_same, List.getElem?_cons_zero, List.getElem?_cons_succ, List.set_cons_zero, List.set_cons_succ, lt_i, len_frz, zi, decide_false, if_false, Bool.false_eq_true, bin_mul', m3, add_int, slc_frz, hms, e1, bin_mod', md3, hc, md1, m1, m2, md2, pow18, sub_int, max_int, s3]
    simp only [len2, if_true, Ss.ev, S.ev, Hs.ev, E.ev, Es.ev, T.ev, Pt.put, Pts.put, Pts.len, Es.len, Oe.ev, It.ev, bind_ok, bind_err, bind_bad, th_ok, th_err, th_bad, nxth, retth, errth, badth, noerr_ok, fin_nx, fin_ret, fin_err, tidy_same, tidyX_same, List.getElem?_cons_zero, List.getElem?_cons_succ, List.set_cons_zero, List.set_cons_succ]
    exact tidy_ref (by simp)
/-! ### lists told and due -/
theorem so_IP : PyData.strOk (Str.ofString "InvalidPolynomial") = true := by decide +kernel
theorem so_NM : PyData.strOk (Str.ofString "NotMonic") = true := by decide +kernel
theorem so_nil : PyData.strOk (Str.ofString "") = true := by decide +kernel
theorem ceq_str (hh : Hc) (n : Nat) (x : Str) (hx : PyData.strOk x = true) : ceq hh (n + 1) (.str x) (.str x) = some true := by
  show eqFar hh (n + 1) (.str x) (.str x) = _
  unfold eqFar
  simp [toD, SeqAt.shaped, PyData.canLay0, PyData.depth, PyData.eqv, hx]
theorem ceq_bl (hh : Hc) (n : Nat) (x : Bool) : ceq hh (n + 1) (.bl x) (.bl x) = some true := by
  show eqFar hh (n + 1) (.bl x) (.bl x) = _
  unfold eqFar
  simp [toD, SeqAt.shaped, PyData.canLay0, PyData.depth, PyData.eqv]
theorem ceq_rep (hh : Hc) (n : Nat) (d : PyData) (hd : d.hasDict = false) : ceq hh (n + 1) (.rep d) (.rep d) = some true := by
  show (if pdEq d d then some true else eqFar hh (n + 1) _ _) = _
  rw [pd_refl d hd]
  rfl
theorem ne_lists {hh : Hc} {a b : Nat} {L : List C} (ha : hh[a]? = some L) (hb : hh[b]? = some L) (hL : both (ceq hh 39) L L = some true) : cmpop .ne (.ref a) (.ref b) hh = .ok (.bl false) hh := by
  have e : ceq hh 40 (.ref a) (.ref b) = some true := by
    show (match hh[a]?, hh[b]? with
      | some xs, some ys => if xs.length = ys.length then both (ceq hh 39) xs ys else eqFar hh 40 (.ref a) (.ref b)
      | _, _ => none) = _
    rw [ha, hb]
    show (if L.length = L.length then both (ceq hh 39) L L else _) = _
    rw [if_pos rfl, hL]
  show (match ceq hh 40 (.ref a) (.ref b) with
      | some b => R.ok (C.bl (!b)) hh
      | none => .bad) = _
  rw [e]
  rfl
theorem both3 (hh : Hc) (a b c : C) (ha : ceq hh 39 a a = some true) (hb : ceq hh 39 b b = some true) (hc : ceq hh 39 c c = some true) : both (ceq hh 39) [a, b, c] [a, b, c] = some true := by
  simp [both, ha, hb, hc]
theorem due_ok (h : Hc) (L : List C) (hL : ∀ hh, both (ceq hh 39) L L = some true) : cmpop .ne (.ref h.length) (.ref (h ++ [L]).length) ((h ++ [L]) ++ [L]) = .ok (.bl false) ((h ++ [L]) ++ [L]) :=
  ne_lists (L := L) (by rw [List.append_assoc, List.getElem?_append_right (Nat.le_refl _)]; simp) (by rw [List.getElem?_append_right (Nat.le_refl _)]; simp) (hL _)
theorem line3 : (3 : Nat) ≤ lineN := by decide
theorem len3 (a b c : C) : ([a, b, c] : List C).length ≤ lineN := by show 3 ≤ lineN; decide
theorem repr_of {hh : Hc} {c : C} {dv : PyData} (e : datum hh c = some dv) (k : (dv.showable && SeqAt.shaped dv && shortD dv) = true) : bi .repr [c] hh = .ok (.rep dv) hh := by
  show (match datum hh c with
      | some d => if d.showable && SeqAt.shaped d && shortD d then R.ok (C.rep d) hh else .bad
      | none => .bad) = _
  rw [e]
  show (if (dv.showable && SeqAt.shaped dv && shortD dv) = true then R.ok (C.rep dv) hh else .bad) = _
  rw [if_pos k]
theorem add_ref {h : Hc} {a b : Nat} {xs ys : List C} (ha : h[a]? = some xs) (hb : h[b]? = some ys) (hl : xs.length + ys.length ≤ 1000) : binop .add (.ref a) (.ref b) h = .ok (.ref h.length) (h ++ [xs ++ ys]) := by
  show (match h[a]?, h[b]? with
    | some xs, some ys => if lineN < xs.length + ys.length then R.bad else .ok (C.ref h.length) (h ++ [xs ++ ys])
    | _, _ => .bad) = _
  rw [ha, hb]
  show (if lineN < xs.length + ys.length then R.bad else _) = _
  rw [if_neg (Nat.not_lt.mpr (Nat.le_trans hl (by decide)))]
theorem add_tup (h : Hc) (xs ys : List C) (hl : xs.length + ys.length ≤ 1000) : binop .add (.tup xs) (.tup ys) h = .ok (.tup (xs ++ ys)) h := by
  show (if lineN < xs.length + ys.length then R.bad else .ok (C.tup (xs ++ ys)) h) = _
  rw [if_neg (Nat.not_lt.mpr (Nat.le_trans hl (by decide)))]
theorem item_refN {h : Hc} {n j : Nat} {xs : List C} {c : C} {i : Int} (e : h[n]? = some xs) (hi : i = (j : Int)) (hc : xs[j]? = some c) : item (.ref n) (.int i) h = .ok c h := by
  subst hi
  exact item_of (seq_ref e) (by rw [ix_nat, if_pos (List.getElem?_eq_some_iff.mp hc).1]) hc
end
end Sh
set_option linter.all false
set_option autoImplicit false
set_option maxRecDepth 100000
set_option maxHeartbeats 16000000
/-! Sh, part Z: sums, products, slopes and worths of rows. -/
namespace Sh
open PySem
def P_added_1 : Pt := (.tup (.cons (.v 3) (.cons (.v 4) .nil)))
def L_added_2 : Ss := (.cons (.augi (.var 2) (.var 3) .add (.var 4)) .nil)
def F_added (j_trimmed j_added : Nat) : Fn := ⟨5, 2, (.cons (.ifs (.cmp .lt (.bi .len (.cons (.var 0) .nil)) (.bi .len (.cons (.var 1) .nil))) (.cons (.ret (.call j_added (.cons (.var 1) (.cons (.var 0) .nil)))) .nil) .nil) (.cons (.asg (.v 2) (.bi .list (.cons (.var 0) .nil))) (.cons (.for_ P_added_1 (.enum (.var 1)) L_added_2) (.cons (.ret (.call j_trimmed (.cons (.var 2) .nil))) .nil))))⟩
def C_negated_1 : E := (.neg (.var 1))
def P_negated_2 : Pt := (.v 1)
def F_negated : Fn := ⟨2, 1, (.cons (.ret (.bi .tuple (.cons (.comp C_negated_1 P_negated_2 (.seq (.var 0)) .yes) .nil))) .nil)⟩
def P_multiplied_1 : Pt := (.tup (.cons (.v 3) (.cons (.v 4) .nil)))
def P_multiplied_2 : Pt := (.tup (.cons (.v 5) (.cons (.v 6) .nil)))
def L_multiplied_3 : Ss := (.cons (.augi (.var 2) (.bin .add (.var 3) (.var 5)) .add (.bin .mul (.var 4) (.var 6))) .nil)
def L_multiplied_4 : Ss := (.cons (.ifs (.tr (.var 4)) (.cons (.for_ P_multiplied_2 (.enum (.var 1)) L_multiplied_3) .nil) .nil) .nil)
def F_multiplied : Fn := ⟨7, 2, (.cons (.ifs (.or (.not (.tr (.var 0))) (.not (.tr (.var 1)))) (.cons (.ret (.tup .nil)) .nil) .nil) (.cons (.asg (.v 2) (.bin .mul (.lst (.cons (.con (.int 0)) .nil)) (.bin .sub (.bin .add (.bi .len (.cons (.var 0) .nil)) (.bi .len (.cons (.var 1) .nil))) (.con (.int 1))))) (.cons (.for_ P_multiplied_1 (.enum (.var 0)) L_multiplied_4) (.cons (.ret (.bi .tuple (.cons (.var 2) .nil))) .nil))))⟩
def C_slope_1 : E := (.bin .mul (.var 1) (.var 2))
def P_slope_2 : Pt := (.tup (.cons (.v 1) (.cons (.v 2) .nil)))
def T_slope_3 : T := (.tr (.var 1))
def F_slope : Fn := ⟨3, 1, (.cons (.ret (.bi .tuple (.cons (.comp C_slope_1 P_slope_2 (.enum (.var 0)) T_slope_3) .nil))) .nil)⟩
def P_worth_times_1 : Pt := (.v 5)
def L_worth_times_2 : Ss := (.cons (.asg (.v 3) (.bin .add (.bin .mul (.var 3) (.var 1)) (.bin .mul (.var 5) (.var 4)))) (.cons (.aug 4 .mul (.var 2)) .nil))
def F_worth_times : Fn := ⟨6, 3, (.cons (.asg (.v 3) (.con (.int 0))) (.cons (.asg (.v 4) (.con (.int 1))) (.cons (.for_ P_worth_times_1 (.rev (.var 0)) L_worth_times_2) (.cons (.ret (.var 3)) .nil))))⟩
def F_is_ratio (j_is_integer : Nat) : Fn := ⟨3, 1, (.cons (.ifs (.or (.not (.tr (.isi (.var 0) .tuple))) (.cmp .ne (.bi .len (.cons (.var 0) .nil)) (.con (.int 2)))) (.cons (.ret (.con (.bl false))) .nil) .nil) (.cons (.asg (.tup (.cons (.v 1) (.cons (.v 2) .nil))) (.var 0)) (.cons (.ifs (.or (.not (.tr (.call j_is_integer (.cons (.var 1) .nil)))) (.not (.tr (.call j_is_integer (.cons (.var 2) .nil))))) (.cons (.ret (.con (.bl false))) .nil) .nil) (.cons (.ret (.andv (.cmp .ge (.var 2) (.con (.int 1))) (.cmp .eq (.bi .gcd (.cons (.var 1) (.cons (.var 2) .nil))) (.con (.int 1))))) .nil))))⟩
def F_check_ratio (j_is_ratio x_InvalidRatio : Nat) : Fn := ⟨1, 1, (.cons (.ifs (.not (.tr (.call j_is_ratio (.cons (.var 0) .nil)))) (.cons (.raise x_InvalidRatio (.cons (.var 0) .nil)) .nil) .nil) .nil)⟩
def F_lowest : Fn := ⟨3, 2, (.cons (.asg (.v 2) (.bi .gcd (.cons (.var 0) (.cons (.var 1) .nil)))) (.cons (.ifs (.cmp .lt (.var 1) (.con (.int 0))) (.cons (.asg (.v 2) (.neg (.var 2))) .nil) .nil) (.cons (.ret (.tup (.cons (.bin .div (.var 0) (.var 2)) (.cons (.bin .div (.var 1) (.var 2)) .nil)))) .nil)))⟩
def F_poly_plus (j_added j_check_polynomial : Nat) : Fn := ⟨2, 2, (.cons (.expr (.call j_check_polynomial (.cons (.var 0) .nil))) (.cons (.expr (.call j_check_polynomial (.cons (.var 1) .nil))) (.cons (.ret (.call j_added (.cons (.var 0) (.cons (.var 1) .nil)))) .nil)))⟩
def F_poly_minus (j_added j_negated j_check_polynomial : Nat) : Fn := ⟨2, 2, (.cons (.expr (.call j_check_polynomial (.cons (.var 0) .nil))) (.cons (.expr (.call j_check_polynomial (.cons (.var 1) .nil))) (.cons (.ret (.call j_added (.cons (.var 0) (.cons (.call j_negated (.cons (.var 1) .nil)) .nil)))) .nil)))⟩
def F_poly_times (x_TooMany j_multiplied j_check_polynomial : Nat) : Fn := ⟨3, 2, (.cons (.expr (.call j_check_polynomial (.cons (.var 0) .nil))) (.cons (.expr (.call j_check_polynomial (.cons (.var 1) .nil))) (.cons (.asg (.v 2) (.call j_multiplied (.cons (.var 0) (.cons (.var 1) .nil)))) (.cons (.ifs (.cmp .gt (.bi .len (.cons (.var 2) .nil)) (.glob "MOST_NUMBERS" (.int 13))) (.cons (.raise x_TooMany (.cons (.con (.str "degree")) (.cons (.glob "MOST_DEGREE" (.int 12)) .nil))) .nil) .nil) (.cons (.ret (.var 2)) .nil)))))⟩
def P_poly_worth_1 : Pt := (.v 3)
def L_poly_worth_2 : Ss := (.cons (.aug 2 .mul (.idx (.var 1) (.con (.int 1)))) .nil)
def F_poly_worth (j_lowest j_worth_times j_check_ratio j_check_polynomial : Nat) : Fn := ⟨4, 2, (.cons (.expr (.call j_check_polynomial (.cons (.var 0) .nil))) (.cons (.expr (.call j_check_ratio (.cons (.var 1) .nil))) (.cons (.asg (.v 2) (.con (.int 1))) (.cons (.for_ P_poly_worth_1 (.rng1 (.bin .sub (.bi .len (.cons (.var 0) .nil)) (.con (.int 1)))) L_poly_worth_2) (.cons (.ret (.call j_lowest (.cons (.call j_worth_times (.cons (.var 0) (.cons (.idx (.var 1) (.con (.int 0))) (.cons (.idx (.var 1) (.con (.int 1))) .nil)))) (.cons (.var 2) .nil)))) .nil)))))⟩
def F_poly_slope (j_slope j_check_polynomial : Nat) : Fn := ⟨1, 1, (.cons (.expr (.call j_check_polynomial (.cons (.var 0) .nil))) (.cons (.ret (.call j_slope (.cons (.var 0) .nil))) .nil))⟩

def P_law_product_1 : Pt := (.tup (.cons (.v 3) (.cons (.v 4) .nil)))
def P_law_product_2 : Pt := (.tup (.cons (.v 5) (.cons (.v 6) .nil)))
def L_law_product_3 : Ss := (.cons (.augi (.var 2) (.bin .add (.var 3) (.var 5)) .add (.bin .mul (.var 4) (.var 6))) .nil)
def L_law_product_4 : Ss := (.cons (.for_ P_law_product_2 (.enum (.var 1)) L_law_product_3) .nil)
def F_law_product (j_law_cut : Nat) : Fn := ⟨7, 2, (.cons (.asg (.v 2) (.bin .mul (.lst (.cons (.con (.int 0)) .nil)) (.bin .add (.bi .len (.cons (.var 0) .nil)) (.bi .len (.cons (.var 1) .nil))))) (.cons (.for_ P_law_product_1 (.enum (.var 0)) L_law_product_4) (.cons (.ret (.call j_law_cut (.cons (.var 2) .nil))) .nil)))⟩

/-! ### sums of numbers -/
def sT (f : Nat → Int) : Nat → Int
  | 0 => 0
  | n + 1 => sT f n + f n
theorem sT_head (f : Nat → Int) : ∀ n, sT f (n + 1) = f 0 + sT (fun k => f (k + 1)) n
  | 0 => by show 0 + f 0 = f 0 + 0; omega
  | n + 1 => by
    show sT f (n + 1) + f (n + 1) = f 0 + (sT (fun k => f (k + 1)) n + f (n + 1))
    rw [sT_head f n]; omega
theorem sT_congr {f g : Nat → Int} : ∀ n, (∀ k, k < n → f k = g k) → sT f n = sT g n
  | 0, _ => rfl
  | n + 1, h => by
    show sT f n + f n = sT g n + g n
    rw [sT_congr n fun k hk => h k (by omega), h n (by omega)]
theorem sT_mul (c : Int) (f : Nat → Int) : ∀ n, sT (fun k => c * f k) n = c * sT f n
  | 0 => by show (0 : Int) = c * 0; rw [Int.mul_zero]
  | n + 1 => by
    show sT (fun k => c * f k) n + c * f n = c * (sT f n + f n)
    rw [sT_mul c f n, Int.mul_add]
theorem sT_add (f g : Nat → Int) : ∀ n, sT (fun k => f k + g k) n = sT f n + sT g n
  | 0 => rfl
  | n + 1 => by
    show sT (fun k => f k + g k) n + (f n + g n) = sT f n + f n + (sT g n + g n)
    rw [sT_add f g n]; omega
theorem sT_more (f : Nat → Int) (m : Nat) (h : ∀ k, m ≤ k → f k = 0) : ∀ j, sT f (m + j) = sT f m
  | 0 => rfl
  | j + 1 => by
    show sT f (m + j) + f (m + j) = _
    rw [sT_more f m h j, h _ (by omega), Int.add_zero]
/-! ### the worth, and what the scale is behind so many numbers -/
def wt (p u : Int) : List Int → Int × Int
  | [] => (0, 1)
  | x :: r => ((wt p u r).1 * p + x * (wt p u r).2, (wt p u r).2 * u)
theorem wt_scale (p u : Int) : ∀ xs : List Int, (wt p u xs).2 = u ^ xs.length
  | [] => by show (1 : Int) = u ^ 0; rw [Int.pow_zero]
  | x :: r => by
    show (wt p u r).2 * u = u ^ (r.length + 1)
    rw [wt_scale p u r, Int.pow_succ]
theorem wt_sum (p u : Int) : ∀ xs : List Int, (wt p u xs).1 = sT (fun k => gI xs k * p ^ k * u ^ (xs.length - 1 - k)) xs.length
  | [] => rfl
  | x :: r => by
    show (wt p u r).1 * p + x * (wt p u r).2 = _
    rw [List.length_cons, sT_head, wt_sum p u r, wt_scale, Int.add_comm]
    congr 1
    · show x * u ^ r.length = x * p ^ 0 * u ^ (r.length + 1 - 1 - 0)
      rw [Int.pow_zero, Int.mul_one]; rfl
    · rw [Int.mul_comm, ← sT_mul]
      refine sT_congr _ fun k hk => ?_
      show p * (gI r k * p ^ k * u ^ (r.length - 1 - k)) = gI r k * p ^ (k + 1) * u ^ (r.length + 1 - 1 - (k + 1))
      rw [show r.length + 1 - 1 - (k + 1) = r.length - 1 - k by omega, Int.pow_succ]
      grind
theorem bd_pow {u : Int} {b : Nat} (h : Bd b u) (hb : 0 < b) : ∀ n, Bd (b * n + 1) (u ^ n)
  | 0 => by rw [Int.pow_zero, Nat.mul_zero]; exact Nat.lt_of_sub_ne_zero (by decide)
  | n + 1 => by
    rw [Int.pow_succ]
    exact ((bd_pow h hb n).mul h).mono (by rw [Nat.mul_succ]; omega)
theorem wt_bd {p u : Int} (hp : Bd 8 p) (hu : Bd 8 u) (B : Nat) : ∀ xs : List Int, (∀ x ∈ xs, Bd B x) → Bd (B + 10 + 9 * xs.length) (wt p u xs).1
  | [], _ => bd0 _
  | x :: r, h => by
    have ih := wt_bd hp hu B r fun y hy => h y (by simp [hy])
    have s : Bd (8 * r.length + 1) (wt p u r).2 := by rw [wt_scale]; exact bd_pow hu (by decide) _
    have a := (ih.mul hp).mono (b := B + 18 + 9 * r.length) (by omega)
    have b := ((h x (by simp)).mul s).mono (b := B + 18 + 9 * r.length) (by omega)
    exact (a.add b).mono (by rw [List.length_cons]; omega)
/-- the worth at a whole number -/
def evL (t : Int) (xs : List Int) : Int := (wt t 1 xs).1
theorem evL_sum (t : Int) (xs : List Int) (N : Nat) (h : xs.length ≤ N) : evL t xs = sT (fun k => gI xs k * t ^ k) N := by
  unfold evL
  rw [wt_sum, show N = xs.length + (N - xs.length) by omega, sT_more _ _ (fun k hk => by rw [getD_big hk, Int.zero_mul])]
  exact sT_congr _ fun k _ => by rw [Int.one_pow, Int.mul_one]
theorem evL_cv (t : Int) (o : Nat → Int) (m : Nat) (ho : ∀ k, m ≤ k → o k = 0) : ∀ (xs : List Int) (N : Nat), xs.length + m ≤ N → sT (fun k => cv xs o k * t ^ k) N = evL t xs * sT (fun k => o k * t ^ k) m
  | [], N, _ => by
    have : sT (fun k => cv [] o k * t ^ k) N = sT (fun _ => 0) N := sT_congr _ fun k _ => by show (0 : Int) * t ^ k = 0; rw [Int.zero_mul]
    rw [this]
    have z : ∀ n, sT (fun _ => 0) n = 0 := fun n => by
      induction n with
      | zero => rfl
      | succ n ih => show sT (fun _ => 0) n + 0 = 0; rw [ih]; rfl
    rw [z]
    show (0 : Int) = 0 * _
    rw [Int.zero_mul]
  | x :: r, N, hN => by
    have e1 : sT (fun k => cv (x :: r) o k * t ^ k) N = x * sT (fun k => o k * t ^ k) N + sT (fun k => (if k = 0 then 0 else cv r o (k - 1)) * t ^ k) N := by
      rw [← sT_mul, ← sT_add]
      refine sT_congr _ fun k _ => ?_
      show (x * o k + (if k = 0 then 0 else cv r o (k - 1))) * t ^ k = _
      rw [Int.add_mul, Int.mul_assoc]
    have e2 : sT (fun k => o k * t ^ k) N = sT (fun k => o k * t ^ k) m := by
      rw [show N = m + (N - m) by omega, sT_more _ _ (fun k hk => by rw [ho k hk, Int.zero_mul])]
    obtain ⟨M, rfl⟩ : ∃ M, N = M + 1 := ⟨N - 1, by rw [List.length_cons] at hN; omega⟩
    have e3 : sT (fun k => (if k = 0 then 0 else cv r o (k - 1)) * t ^ k) (M + 1) = t * sT (fun k => cv r o k * t ^ k) M := by
      rw [sT_head, ← sT_mul]
      simp only [if_true, Int.zero_mul, Int.zero_add]
      refine sT_congr _ fun k _ => ?_
      show (if k + 1 = 0 then 0 else cv r o (k + 1 - 1)) * t ^ (k + 1) = t * (cv r o k * t ^ k)
      rw [if_neg (by omega), Int.pow_succ, show k + 1 - 1 = k by omega]
      grind
    rw [e1, e2, e3, evL_cv t o m ho r M (by rw [List.length_cons] at hN; omega)]
    show _ = ((wt t 1 r).1 * t + x * (wt t 1 r).2) * _
    rw [wt_scale, Int.one_pow]
    show x * _ + t * ((wt t 1 r).1 * _) = _
    grind
/-- the worth of a product is the product of the worths -/
theorem evL_mul (t : Int) (M xs ys : List Int) (h : ∀ k, gI M k = cv xs (gI ys) k) : evL t M = evL t xs * evL t ys := by
  rw [evL_sum t M (max M.length (xs.length + ys.length)) (by omega), evL_sum t ys ys.length (Nat.le_refl _), ← evL_cv t (gI ys) ys.length (fun k hk => getD_big hk) xs (max M.length (xs.length + ys.length)) (by omega)]
  exact sT_congr _ fun k _ => by rw [h]
/-! ### sums of rows -/
def addZ (xs ys : List Int) : List Int := (List.range (max xs.length ys.length)).map fun k => gI xs k + gI ys k
theorem gI_addZ (xs ys : List Int) (k : Nat) : gI (addZ xs ys) k = gI xs k + gI ys k := by
  unfold addZ
  rw [gI_range]
  split
  · rfl
  · rw [getD_big (show xs.length ≤ k by omega), getD_big (show ys.length ≤ k by omega)]; rfl
theorem addZ_len (xs ys : List Int) : (addZ xs ys).length = max xs.length ys.length := by simp [addZ]
theorem gI_neg (xs : List Int) (k : Nat) : gI (xs.map fun x => -x) k = -gI xs k := by
  unfold gI
  rw [List.getD_eq_getElem?_getD, List.getD_eq_getElem?_getD, List.getElem?_map]
  cases xs[k]? with
  | none => rfl
  | some x => rfl
section
variable {fns : Nat → Option Fn} {sub : Nat → Str → Option Bool} {w : Nat} {h : Hc}
theorem added0 {i jt : Nat} (e : fns i = some (F_added jt i)) (et : fns jt = some F_trimmed) (hw : 1000 < w) (d : Nat) (cl : ClH h) (xs ys : List Int) (hl : ys.length ≤ xs.length) (hx : xs.length ≤ 100) : run fns sub w (d + 2) i [tZ xs, tZ ys] h = .ok (tZ (trimZ (addZ xs ys))) h := by
  obtain ⟨sl', h', l1, ⟨x3, x4, R, l2, l3, l4⟩, _⟩ := forF_gen (it := .ent (iZ ys)) (n := ys.length) (el := fun i => .tup [.int (i : Int), .int (gI ys i)]) (g := Pt.put (run fns sub w (d + 1)) sub w none P_added_1) (b := Ss.ev (run fns sub w (d + 1)) sub w L_added_2 none)
      (fun j sl h' => (∃ x3 x4 R, sl = [some (tZ xs), some (tZ ys), some (.ref h.length), x3, x4] ∧ h' = h ++ [iZ R] ∧ R.length = xs.length ∧ ∀ k, gI R k = gI xs k + (if k < j then gI ys k else 0)) ∧ True)
      (fun i _ h' _ _ => at_entI ys i h') (fun j sl h' ⟨⟨x3, x4, R, a1, a2, a3, a4⟩, _⟩ hj => by
        subst a1 a2
        have i1 : item (.ref h.length) (.int (j : Int)) (h ++ [iZ R]) = .ok (.int (gI R j)) (h ++ [iZ R]) := item_iZ j (seq_ref (last_get _ _)) (by omega)
        have se : setitem (.ref h.length) (.int (j : Int)) (.int (gI R j + gI ys j)) (h ++ [iZ R]) = .ok () (h ++ [iZ (R.set j (gI R j + gI ys j))]) := by
          rw [setitem_iZ (last_get _ _) (by omega)]; simp
        refine ⟨[some (tZ xs), some (tZ ys), some (.ref h.length), some (.int (j : Int)), some (.int (gI ys j))], h ++ [iZ R], [some (tZ xs), some (tZ ys), some (.ref h.length), some (.int (j : Int)), some (.int (gI ys j))], h ++ [iZ (R.set j (gI R j + gI ys j))], rfl, .inl ?_, ⟨⟨_, _, _, rfl, rfl, by simp [a3], fun k => ?_⟩, trivial⟩⟩
        · simp only [L_added_2, Ss.ev, S.ev, Hs.ev, E.ev, Es.ev, T.ev, Pt.put, Pts.put, Pts.len, Es.len, Oe.ev, It.ev, bind_ok, bind_err, bind_bad, th_ok, th_err, th_bad, nxth, retth, errth, badth, noerr_ok, fin_nx, fin_ret, fin_err, tidy_same, tidyX_same, List.getElem?_cons_zero, List.getElem?_cons_succ, List.set_cons_zero, List.set_cons_succ, i1, aug_add, se]
        · rw [gI_set, a4 k]
          by_cases h1 : k = j
          · rw [if_pos ⟨h1, by omega⟩, h1, a4 j, if_neg (by omega), if_pos (by omega)]; omega
          · rw [if_neg (fun z => h1 z.1)]
            by_cases h2 : k < j
            · rw [if_pos h2, if_pos (show k < j + 1 by omega)]
            · rw [if_neg h2, if_neg (show ¬ k < j + 1 by omega)]) w 0 [some (tZ xs), some (tZ ys), some (.ref h.length), none, none] (h ++ [iZ xs]) ⟨⟨_, _, xs, rfl, rfl, rfl, fun k => by simp⟩, trivial⟩ (Nat.zero_le _) (by omega)
  have eR : trimZ R = trimZ (addZ xs ys) := (trim_trim _).uni (trim_trim _) fun k => by
    rw [trim_get, trim_get, gI_addZ, l4.2 k]
    split
    · rfl
    · rw [getD_big (show ys.length ≤ k by omega)]
  have tr := trimmed_run (sub := sub) (w := w) et d h.length (h ++ [iZ R]) R (last_get _ _) (cl_push cl (iZ_unders _ _)) (by omega)
  rw [eR] at tr
  rw [un e _ _ _ rfl (of_decide_eq_true rfl)]
  simp only [F_added, List.map_cons, List.map_nil, List.replicate, List.cons_append, List.nil_append, Nat.reduceSub, ss_cons, ss_nil]
  have c1 : ¬ ((xs.length : Int) < (ys.length : Int)) := by omega
  have s3 : S.ev (run fns sub w (d + 1)) sub w (.for_ P_added_1 (.enum (.var 1)) L_added_2) none [some (tZ xs), some (tZ ys), some (.ref h.length), none, none] (h ++ [iZ xs]) = .nx sl' h' := l1
  have s1 : S.ev (run fns sub w (d + 1)) sub w (.ifs (.cmp .lt (.bi .len (.cons (.var 0) .nil)) (.bi .len (.cons (.var 1) .nil))) (.cons (.ret (.call i (.cons (.var 1) (.cons (.var 0) .nil)))) .nil) .nil) none [some (tZ xs), some (tZ ys), none, none, none] h = .nx [some (tZ xs), some (tZ ys), none, none, none] h := by
    simp only [Ss.ev, S.ev, Hs.ev, E.ev, Es.ev, T.ev, Pt.put, Pts.put, Pts.len, Es.len, Oe.ev, It.ev, bind_ok, bind_err, bind_bad, th_ok, th_err, th_bad, nxth, retth, errth, badth, noerr_ok, fin_nx, fin_ret, fin_err, tidy_same, tidyX_same, List.getElem?_cons_zero, List.getElem?_cons_succ, List.set_cons_zero, List.set_cons_succ, len_tZ, lt_i, c1, decide_false, Bool.false_eq_true, if_false]
  have s2 : S.ev (run fns sub w (d + 1)) sub w (.asg (.v 2) (.bi .list (.cons (.var 0) .nil))) none [some (tZ xs), some (tZ ys), none, none, none] h = .nx [some (tZ xs), some (tZ ys), some (.ref h.length), none, none] (h ++ [iZ xs]) := by
    simp only [Ss.ev, S.ev, Hs.ev, E.ev, Es.ev, T.ev, Pt.put, Pts.put, Pts.len, Es.len, Oe.ev, It.ev, bind_ok, bind_err, bind_bad, th_ok, th_err, th_bad, nxth, retth, errth, badth, noerr_ok, fin_nx, fin_ret, fin_err, tidy_same, tidyX_same, List.getElem?_cons_zero, List.getElem?_cons_succ, List.set_cons_zero, List.set_cons_succ, list_of (seq_tZ h xs)]
  rw [s1, nxth, s2, nxth, s3, nxth, l2, l3]
  simp only [Ss.ev, S.ev, Hs.ev, E.ev, Es.ev, T.ev, Pt.put, Pts.put, Pts.len, Es.len, Oe.ev, It.ev, bind_ok, bind_err, bind_bad, th_ok, th_err, th_bad, nxth, retth, errth, badth, noerr_ok, fin_nx, fin_ret, fin_err, tidy_same, tidyX_same, List.getElem?_cons_zero, List.getElem?_cons_succ, List.set_cons_zero, List.set_cons_succ, tr]
  exact tidy_cl cl _ _ (iZ_unders _ _)
theorem added_run {i jt : Nat} (e : fns i = some (F_added jt i)) (et : fns jt = some F_trimmed) (hw : 1000 < w) (d : Nat) (cl : ClH h) (xs ys : List Int) (hx : xs.length ≤ 100) (hy : ys.length ≤ 100) : run fns sub w (d + 3) i [tZ xs, tZ ys] h = .ok (tZ (trimZ (addZ xs ys))) h := by
  by_cases hl : ys.length ≤ xs.length
  · exact added0 e et hw (d + 1) cl xs ys hl hx
  · have r := added0 (sub := sub) e et hw d cl ys xs (by omega) hy
    have eR : trimZ (addZ ys xs) = trimZ (addZ xs ys) := (trim_trim _).uni (trim_trim _) fun k => by rw [trim_get, trim_get, gI_addZ, gI_addZ, Int.add_comm]
    rw [eR] at r
    rw [un e _ _ _ rfl (of_decide_eq_true rfl)]
    have c1 : ((xs.length : Int) < (ys.length : Int)) := by omega
    simp only [F_added, List.map_cons, List.map_nil, List.replicate, List.cons_append, List.nil_append, Nat.reduceSub, Ss.ev, S.ev, Hs.ev, E.ev, Es.ev, T.ev, Pt.put, Pts.put, Pts.len, Es.len, Oe.ev, It.ev, bind_ok, bind_err, bind_bad, th_ok, th_err, th_bad, nxth, retth, errth, badth, noerr_ok, fin_nx, fin_ret, fin_err, tidy_same, tidyX_same, List.getElem?_cons_zero, List.getElem?_cons_succ, List.set_cons_zero, List.set_cons_succ, len_tZ, lt_i, c1, decide_true, if_true, r]
theorem negated_run {i : Nat} (e : fns i = some F_negated) (hw : 1000 < w) (d : Nat) (cl : ClH h) (xs : List Int) (hx : xs.length ≤ 100) : run fns sub w (d + 1) i [tZ xs] h = .ok (tZ (xs.map fun x => -x)) h := by
  have ci := compF_map (it := .tre (iZ xs)) (n := xs.length) (el := fun i => .int (gI xs i)) (ev := fun i => .int (-gI xs i)) (g := fun c sl h => Pt.put (run fns sub w d) sub w none P_negated_2 c sl h) (t := fun sl h => T.ev (run fns sub w d) sub w none .yes sl h) (e := fun sl h => E.ev (run fns sub w d) sub w none C_negated_1 sl h) (sl := [some (tZ xs), none]) (h := h) (by omega) (fun i _ => at_treI xs i _) (fun i hi => ⟨[some (tZ xs), some (.int (gI xs i))], rfl, rfl, rfl⟩) w (by omega)
  have eq : (List.range xs.length).map (fun i => C.int (-gI xs i)) = iZ (xs.map fun x => -x) := by
    conv => rhs; rw [row_eq xs]
    simp [iZ, List.map_map]
  rw [eq] at ci
  rw [un e _ _ _ rfl (of_decide_eq_true rfl)]
  simp only [F_negated, List.map_cons, List.map_nil, List.replicate, List.cons_append, List.nil_append, Nat.reduceSub, ss_cons, ss_nil]
  rw [S.ev, E.ev, Es.ev, E.ev, show It.ev (run fns sub w d) sub w none (.seq (.var 0)) [some (tZ xs), none] h = .ok (.tre (iZ xs)) h from rfl, bind_ok]
  rw [show Pt.wipe P_negated_2 [some (tZ xs), none] = [some (tZ xs), none] from rfl, ci, noerr_ok, bind_ok, bind_ok]
  simp only [Ss.ev, S.ev, Hs.ev, E.ev, Es.ev, T.ev, Pt.put, Pts.put, Pts.len, Es.len, Oe.ev, It.ev, bind_ok, bind_err, bind_bad, th_ok, th_err, th_bad, nxth, retth, errth, badth, noerr_ok, fin_nx, fin_ret, fin_err, tidy_same, tidyX_same, List.getElem?_cons_zero, List.getElem?_cons_succ, List.set_cons_zero, List.set_cons_succ, tuple_ref (last_get h _)]
  exact tidy_cl cl _ _ (iZ_unders _ _)
/-! ### products -/
def stP (q o : List Int) (n : Nat) (x3 x4 x5 x6 : Option C) : Sl := [some (tZ q), some (tZ o), some (.ref (n + 1)), x3, x4, x5, x6]
theorem mul_in (d : Nat) (q o R : List Int) (x : Int) (s : Nat) (x5 x6 : Option C) (hR : s + o.length ≤ R.length) (bx : Bd 400 x) (bo : ∀ y ∈ o, Bd 400 y) (hw : 1000 < w) (ho : o.length ≤ 100) :
    ∃ x5' x6', forF (.ent (iZ o)) (Pt.put (run fns sub w d) sub w none P_multiplied_2) (Ss.ev (run fns sub w d) sub w L_multiplied_3 none) w 0 (stP q o h.length (some (.int (s : Int))) (some (.int x)) x5 x6) (hpM h R)
      = .nx (stP q o h.length (some (.int (s : Int))) (some (.int x)) x5' x6') (hpM h (stepL R o (-x) R.length s o.length)) := by
  obtain ⟨sl', h', l1, ⟨x5', x6', l2⟩, l3⟩ := forF_gen (it := .ent (iZ o)) (n := o.length) (el := fun i => .tup [.int (i : Int), .int (gI o i)]) (g := Pt.put (run fns sub w d) sub w none P_multiplied_2) (b := Ss.ev (run fns sub w d) sub w L_multiplied_3 none)
      (fun j sl h' => (∃ x5 x6, sl = stP q o h.length (some (.int (s : Int))) (some (.int x)) x5 x6) ∧ h' = hpM h (stepL R o (-x) R.length s j))
      (fun i _ h' _ _ => at_entI o i h') (fun j sl h' ⟨⟨x5, x6, a1⟩, a2⟩ hj => by
        subst a1 a2
        have e0 : (s : Int) + (j : Int) = ((s + j : Nat) : Int) := by omega
        have i1 : item (.ref (h.length + 1)) (.int ((s + j : Nat) : Int)) (hpM h (stepL R o (-x) R.length s j)) = .ok (.int (gI R (s + j))) (hpM h (stepL R o (-x) R.length s j)) := by
          rw [item_iZ (s + j) (seq_ref (hpM1 _)) (by rw [stepL_len]; omega), stepL_at _ _ _ _ _ _ (by omega)]
        have m1 := mul_of (i := x) (j := gI o j) bx (gI_mem (P := Bd 400) bo (bd0 _) j) (by decide) (by decide)
        have se : setitem (.ref (h.length + 1)) (.int ((s + j : Nat) : Int)) (.int (gI R (s + j) + x * gI o j)) (hpM h (stepL R o (-x) R.length s j)) = .ok () (hpM h (stepL R o (-x) R.length s (j + 1))) := by
          rw [setitem_iZ (hpM1 _) (by rw [stepL_len]; omega), hpMS, ← stepL_set _ _ _ _ _ _ (show s + j < R.length by omega), Int.neg_mul, Int.sub_neg]
        refine ⟨stP q o h.length (some (.int (s : Int))) (some (.int x)) (some (.int (j : Int))) (some (.int (gI o j))), hpM h (stepL R o (-x) R.length s j), stP q o h.length (some (.int (s : Int))) (some (.int x)) (some (.int (j : Int))) (some (.int (gI o j))), hpM h (stepL R o (-x) R.length s (j + 1)), rfl, .inl ?_, ⟨⟨_, _, rfl⟩, rfl⟩⟩
        simp only [L_multiplied_3, stP, Ss.ev, S.ev, Hs.ev, E.ev, Es.ev, T.ev, Pt.put, Pts.put, Pts.len, Es.len, Oe.ev, It.ev, bind_ok, bind_err, bind_bad, th_ok, th_err, th_bad, nxth, retth, errth, badth, noerr_ok, fin_nx, fin_ret, fin_err, tidy_same, tidyX_same, List.getElem?_cons_zero, List.getElem?_cons_succ, List.set_cons_zero, List.set_cons_succ, add_int, e0, i1, bin_mul', m1, aug_add, se]) w 0 (stP q o h.length (some (.int (s : Int))) (some (.int x)) x5 x6) (hpM h R) ⟨⟨_, _, rfl⟩, by rw [stepL_zero]⟩ (Nat.zero_le _) (by omega)
  exact ⟨x5', x6', by rw [l1, l2, l3]⟩
theorem step_cv (q o R R' : List Int) (j N : Nat) (hN : R'.length = N) (hk : ∀ k, k < N → gI R' k = cvF (gI q) (gI o) k j) (k : Nat) (h : k < N) : gI (stepL R' o (-gI q j) R'.length j o.length) k = cvF (gI q) (gI o) k (j + 1) := by
  rw [stepL_get, if_pos (show k < R'.length by omega), hk k h]
  show _ = cvF (gI q) (gI o) k j + gI q j * shf j (gI o) k
  unfold shf
  by_cases h1 : k < j
  · rw [if_neg (show ¬ (j ≤ k ∧ k < j + o.length) by omega), if_pos h1]; simp
  · rw [if_neg h1]
    by_cases h2 : k < j + o.length
    · rw [if_pos (show j ≤ k ∧ k < j + o.length by omega), Int.neg_mul]; omega
    · rw [if_neg (show ¬ (j ≤ k ∧ k < j + o.length) by omega), getD_big (show o.length ≤ k - j by omega)]; simp
/-- a loop over a row's numbers, each times the other row -/
theorem mul_out (d : Nat) (L : Ss) (q o R : List Int) (hL : ∀ (R' : List Int) (j : Nat) (x5 x6 : Option C), j < q.length → R'.length = R.length → (∀ k, k < R.length → gI R' k = cvF (gI q) (gI o) k j) →
      ∃ x5' x6' R2, Ss.ev (run fns sub w d) sub w L none (stP q o h.length (some (.int (j : Int))) (some (.int (gI q j))) x5 x6) (hpM h R') = .nx (stP q o h.length (some (.int (j : Int))) (some (.int (gI q j))) x5' x6') (hpM h R2) ∧ R2.length = R.length ∧ ∀ k, k < R.length → gI R2 k = cvF (gI q) (gI o) k (j + 1))
    (y3 y4 y5 y6 : Option C) (h0 : ∀ k, gI R k = 0) (hw : 1000 < w) (hq : q.length ≤ 100) :
    ∃ x3 x4 x5 x6 R', forF (.ent (iZ q)) (Pt.put (run fns sub w d) sub w none P_multiplied_1) (Ss.ev (run fns sub w d) sub w L none) w 0 (stP q o h.length y3 y4 y5 y6) (hpM h R) = .nx (stP q o h.length x3 x4 x5 x6) (hpM h R')
      ∧ R'.length = R.length ∧ ∀ k, k < R.length → gI R' k = cv q (gI o) k := by
  obtain ⟨sl', h', l1, ⟨x3, x4, x5, x6, R', l2, l3, l4⟩, l5⟩ := forF_gen (it := .ent (iZ q)) (n := q.length) (el := fun i => .tup [.int (i : Int), .int (gI q i)]) (g := Pt.put (run fns sub w d) sub w none P_multiplied_1) (b := Ss.ev (run fns sub w d) sub w L none)
      (fun j sl h' => (∃ x3 x4 x5 x6 R', sl = stP q o h.length x3 x4 x5 x6 ∧ h' = hpM h R' ∧ R'.length = R.length ∧ ∀ k, k < R.length → gI R' k = cvF (gI q) (gI o) k j) ∧ True)
      (fun i _ h' _ _ => at_entI q i h') (fun j sl h' ⟨⟨x3, x4, x5, x6, R', a1, a2, a3, a4⟩, _⟩ hj => by
        subst a1 a2
        obtain ⟨x5', x6', R2, b1, b2, b3⟩ := hL R' j x5 x6 hj a3 a4
        exact ⟨stP q o h.length (some (.int (j : Int))) (some (.int (gI q j))) x5 x6, hpM h R', _, _, rfl, .inl b1, ⟨⟨_, _, _, _, _, rfl, rfl, b2, b3⟩, trivial⟩⟩) w 0 (stP q o h.length y3 y4 y5 y6) (hpM h R) ⟨⟨_, _, _, _, R, rfl, rfl, rfl, fun k _ => h0 k⟩, trivial⟩ (Nat.zero_le _) (by omega)
  exact ⟨x3, x4, x5, x6, R', by rw [l1, l2, l3], l4.1, fun k hk => by rw [l4.2 k hk, cv_cvF]⟩
theorem mul0 (N : Nat) (hN : N ≤ 1000) : mulC (.ref h.length) (.int (N : Int)) (h ++ [iZ [0]]) = .ok (.ref (h.length + 1)) (hpM h (List.replicate N 0)) := by
  show (match (h ++ [iZ [0]])[h.length]? with
    | some xs => if (N : Int) < 0 ∨ lineN < xs.length * (N : Int).toNat ∨ 1000000000 ≤ (N : Int) then R.bad else .ok (C.ref (h ++ [iZ [0]]).length) (h ++ [iZ [0]] ++ [(List.replicate (N : Int).toNat xs).flatten])
    | _ => .bad) = _
  rw [last_get]
  dsimp only
  rw [Int.toNat_natCast, flat_zero, if_neg]
  · simp [hpM]
  · rintro (z | z | z)
    · omega
    · rw [iZ_len] at z
      have : lineN = 1000000 := rfl
      simp at z
      omega
    · omega
theorem multiplied_run {i : Nat} (e : fns i = some F_multiplied) (hw : 1000 < w) (d : Nat) (cl : ClH h) (q o : List Int) (bq : ∀ y ∈ q, Bd 400 y) (bo : ∀ y ∈ o, Bd 400 y) (hq : q.length ≤ 100) (ho : o.length ≤ 100) :
    ∃ M, run fns sub w (d + 1) i [tZ q, tZ o] h = .ok (tZ M) h ∧ (∀ k, gI M k = cv q (gI o) k) ∧ M.length = (if q = [] ∨ o = [] then 0 else q.length + o.length - 1) := by
  rw [un e _ _ _ rfl (of_decide_eq_true rfl)]
  have tq : ∀ xs : List Int, truth (tZ xs) h = .ok (!xs.isEmpty) h := fun xs => by
    show R.ok (!(iZ xs).isEmpty) h = _
    rw [iZ_emp]
  by_cases z : q = [] ∨ o = []
  · refine ⟨[], ?_, fun k => ?_, by rw [if_pos z]; rfl⟩
    · have l0 : ([] : List C).length ≤ lineN := by show 0 ≤ lineN; decide
      rcases z with rfl | rfl
      · simp [F_multiplied, Ss.ev, S.ev, Hs.ev, E.ev, Es.ev, T.ev, Pt.put, Pts.put, Pts.len, Es.len, Oe.ev, It.ev, bind_ok, bind_err, bind_bad, th_ok, th_err, th_bad, nxth, retth, errth, badth, noerr_ok, fin_nx, fin_ret, fin_err, tidy_same, tidyX_same, List.getElem?_cons_zero, List.getElem?_cons_succ, List.set_cons_zero, List.set_cons_succ, tq, l0]; rfl
      · cases hq' : q.isEmpty <;> (simp [F_multiplied, Ss.ev, S.ev, Hs.ev, E.ev, Es.ev, T.ev, Pt.put, Pts.put, Pts.len, Es.len, Oe.ev, It.ev, bind_ok, bind_err, bind_bad, th_ok, th_err, th_bad, nxth, retth, errth, badth, noerr_ok, fin_nx, fin_ret, fin_err, tidy_same, tidyX_same, List.getElem?_cons_zero, List.getElem?_cons_succ, List.set_cons_zero, List.set_cons_succ, tq, l0, hq']; rfl)
    · rcases z with rfl | rfl
      · rfl
      · have : ∀ (xs : List Int) k, cv xs (gI []) k = 0 := fun xs => by
          induction xs with
          | nil => intro k; rfl
          | cons x xs ih =>
            intro k
            show x * 0 + (if k = 0 then 0 else cv xs (gI []) (k - 1)) = 0
            rw [ih]; simp
        rw [this]; rfl
  · have hq0 : q ≠ [] := fun z2 => z (.inl z2)
    have ho0 : o ≠ [] := fun z2 => z (.inr z2)
    have lq : 0 < q.length := List.length_pos_iff.mpr hq0
    have lo : 0 < o.length := List.length_pos_iff.mpr ho0
    obtain ⟨x3, x4, x5, x6, R1, a1, a2, a3⟩ := mul_out (fns := fns) (sub := sub) (w := w) (h := h) d L_multiplied_4 q o (List.replicate (q.length + o.length - 1) 0) (fun R' j x5 x6 hj hl hk => by
      rw [List.length_replicate] at hl
      by_cases hz : gI q j = 0
      · refine ⟨x5, x6, R', ?_, by simpa using hl, fun k hk2 => ?_⟩
        · simp only [L_multiplied_4, stP, Ss.ev, S.ev, Hs.ev, E.ev, Es.ev, T.ev, Pt.put, Pts.put, Pts.len, Es.len, Oe.ev, It.ev, bind_ok, bind_err, bind_bad, th_ok, th_err, th_bad, nxth, retth, errth, badth, noerr_ok, fin_nx, fin_ret, fin_err, tidy_same, tidyX_same, List.getElem?_cons_zero, List.getElem?_cons_succ, List.set_cons_zero, List.set_cons_succ, truth_int, hz, bne_self_eq_false, Bool.false_eq_true, if_false]
        · rw [hk k hk2]
          show _ = cvF (gI q) (gI o) k j + gI q j * shf j (gI o) k
          rw [hz, Int.zero_mul, Int.add_zero]
      · obtain ⟨x5', x6', il⟩ := mul_in (fns := fns) (sub := sub) (w := w) (h := h) d q o R' (gI q j) j x5 x6 (by omega) (gI_mem (P := Bd 400) bq (bd0 _) j) bo hw ho
        refine ⟨x5', x6', stepL R' o (-gI q j) R'.length j o.length, ?_, by rw [stepL_len]; simpa using hl, fun k hk2 => step_cv q o [] R' j _ (by simpa using hl) hk k hk2⟩
        have hz2 : (gI q j != 0) = true := bne_iff_ne.mpr hz
        unfold L_multiplied_4
        rw [ss_cons]
        have : S.ev (run fns sub w d) sub w (.ifs (.tr (.var 4)) (.cons (.for_ P_multiplied_2 (.enum (.var 1)) L_multiplied_3) .nil) .nil) none (stP q o h.length (some (.int (j : Int))) (some (.int (gI q j))) x5 x6) (hpM h R') = .nx (stP q o h.length (some (.int (j : Int))) (some (.int (gI q j))) x5' x6') (hpM h (stepL R' o (-gI q j) R'.length j o.length)) := by
          rw [S.ev, T.ev, show E.ev (run fns sub w d) sub w none (.var 4) (stP q o h.length (some (.int (j : Int))) (some (.int (gI q j))) x5 x6) (hpM h R') = .ok (.int (gI q j)) (hpM h R') from rfl, bind_ok, truth_int, th_ok, hz2, if_pos rfl, ss_cons, S.ev]
          rw [show It.ev (run fns sub w d) sub w none (.enum (.var 1)) (stP q o h.length (some (.int (j : Int))) (some (.int (gI q j))) x5 x6) (hpM h R') = .ok (.ent (iZ o)) (hpM h R') from rfl, th_ok, il, nxth, ss_nil]
        rw [this, nxth, ss_nil]) none none none none (gI_zeros _) hw hq
    rw [List.length_replicate] at a2 a3
    refine ⟨R1, ?_, fun k => ?_, by rw [if_neg z, a2]⟩
    · simp only [F_multiplied, List.map_cons, List.map_nil, List.replicate, List.cons_append, List.nil_append, Nat.reduceSub, ss_cons, ss_nil]
      have qe : q.isEmpty = false := by cases q with | nil => exact absurd rfl hq0 | cons _ _ => rfl
      have oe : o.isEmpty = false := by cases o with | nil => exact absurd rfl ho0 | cons _ _ => rfl
      have s0 : S.ev (run fns sub w d) sub w (.ifs (.or (.not (.tr (.var 0))) (.not (.tr (.var 1)))) (.cons (.ret (.tup .nil)) .nil) .nil) none [some (tZ q), some (tZ o), none, none, none, none, none] h = .nx [some (tZ q), some (tZ o), none, none, none, none, none] h := by
        simp only [Ss.ev, S.ev, Hs.ev, E.ev, Es.ev, T.ev, Pt.put, Pts.put, Pts.len, Es.len, Oe.ev, It.ev, bind_ok, bind_err, bind_bad, th_ok, th_err, th_bad, nxth, retth, errth, badth, noerr_ok, fin_nx, fin_ret, fin_err, tidy_same, tidyX_same, List.getElem?_cons_zero, List.getElem?_cons_succ, List.set_cons_zero, List.set_cons_succ, tq, qe, oe, Bool.not_false, Bool.not_true, Bool.false_eq_true, if_false]
      have en : (q.length : Int) + (o.length : Int) - 1 = ((q.length + o.length - 1 : Nat) : Int) := by omega
      have s1 : S.ev (run fns sub w d) sub w (.asg (.v 2) (.bin .mul (.lst (.cons (.con (.int 0)) .nil)) (.bin .sub (.bin .add (.bi .len (.cons (.var 0) .nil)) (.bi .len (.cons (.var 1) .nil))) (.con (.int 1))))) none [some (tZ q), some (tZ o), none, none, none, none, none] h = .nx (stP q o h.length none none none none) (hpM h (List.replicate (q.length + o.length - 1) 0)) := by
        have ll : ([C.int 0] : List C).length ≤ lineN := by show 1 ≤ lineN; decide
        simp only [Ss.ev, S.ev, Hs.ev, E.ev, Es.ev, T.ev, Pt.put, Pts.put, Pts.len, Es.len, Oe.ev, It.ev, bind_ok, bind_err, bind_bad, th_ok, th_err, th_bad, nxth, retth, errth, badth, noerr_ok, fin_nx, fin_ret, fin_err, tidy_same, tidyX_same, List.getElem?_cons_zero, List.getElem?_cons_succ, List.set_cons_zero, List.set_cons_succ, if_pos ll, len_tZ, add_int, sub_int, bin_mul', en]
        rw [show (h ++ [[C.int 0]]) = h ++ [iZ [0]] from rfl, mul0 _ (by omega)]
        rfl
      have s2 : S.ev (run fns sub w d) sub w (.for_ P_multiplied_1 (.enum (.var 0)) L_multiplied_4) none (stP q o h.length none none none none) (hpM h (List.replicate (q.length + o.length - 1) 0)) = .nx (stP q o h.length x3 x4 x5 x6) (hpM h R1) := by
        rw [S.ev]; exact a1
      rw [s0, nxth, s1, nxth, s2, nxth]
      simp only [stP, Ss.ev, S.ev, Hs.ev, E.ev, Es.ev, T.ev, Pt.put, Pts.put, Pts.len, Es.len, Oe.ev, It.ev, bind_ok, bind_err, bind_bad, th_ok, th_err, th_bad, nxth, retth, errth, badth, noerr_ok, fin_nx, fin_ret, fin_err, tidy_same, tidyX_same, List.getElem?_cons_zero, List.getElem?_cons_succ, List.set_cons_zero, List.set_cons_succ, tuple_ref (hpM1 R1)]
      have := tidy_cl cl (tZ R1) ([iZ [0]] ++ [iZ R1]) (iZ_unders _ _)
      rw [← List.append_assoc] at this
      exact this
    · by_cases hk : k < q.length + o.length - 1
      · exact a3 k hk
      · rw [getD_big (show R1.length ≤ k by omega), cv_high q (gI o) (o.length - 1) k (fun i hi => getD_big (by omega)) (by omega)]
theorem product_run {i j : Nat} (e : fns i = some (F_law_product j)) (e1 : fns j = some F_law_cut) (hw : 1000 < w) (d : Nat) (cl : ClH h) (q o : List Int) (bq : ∀ y ∈ q, Bd 400 y) (bo : ∀ y ∈ o, Bd 400 y) (hq : q.length ≤ 100) (ho : o.length ≤ 100) :
    ∃ M, run fns sub w (d + 2) i [tZ q, tZ o] h = .ok (tZ (trimZ M)) h ∧ ∀ k, gI M k = cv q (gI o) k := by
  obtain ⟨x3, x4, x5, x6, R1, a1, a2, a3⟩ := mul_out (fns := fns) (sub := sub) (w := w) (h := h) (d + 1) L_law_product_4 q o (List.replicate (q.length + o.length) 0) (fun R' j x5 x6 hj hl hk => by
    rw [List.length_replicate] at hl
    obtain ⟨x5', x6', il⟩ := mul_in (fns := fns) (sub := sub) (w := w) (h := h) (d + 1) q o R' (gI q j) j x5 x6 (by omega) (gI_mem (P := Bd 400) bq (bd0 _) j) bo hw ho
    refine ⟨x5', x6', stepL R' o (-gI q j) R'.length j o.length, ?_, by rw [stepL_len]; simpa using hl, fun k hk2 => step_cv q o [] R' j _ (by simpa using hl) hk k hk2⟩
    unfold L_law_product_4
    rw [ss_cons, S.ev, show It.ev (run fns sub w (d + 1)) sub w none (.enum (.var 1)) (stP q o h.length (some (.int (j : Int))) (some (.int (gI q j))) x5 x6) (hpM h R') = .ok (.ent (iZ o)) (hpM h R') from rfl, th_ok]
    rw [show forF (.ent (iZ o)) (Pt.put (run fns sub w (d + 1)) sub w none P_law_product_2) (Ss.ev (run fns sub w (d + 1)) sub w L_law_product_3 none) w 0 (stP q o h.length (some (.int (j : Int))) (some (.int (gI q j))) x5 x6) (hpM h R') = _ from il, nxth, ss_nil]) none none none none (gI_zeros _) hw hq
  rw [List.length_replicate] at a2 a3
  have cl2 : ClH (hpM h R1) := cl_push (cl_push cl (iZ_unders _ _)) (iZ_unders _ _)
  have ct := cut_run (sub := sub) (w := w) e1 hw d (hpM h R1) cl2 (.ref (h.length + 1)) R1 (seq_ref (hpM1 R1)) (.inr ⟨_, rfl⟩) (by omega)
  refine ⟨R1, ?_, fun k => ?_⟩
  · rw [un e _ _ _ rfl (of_decide_eq_true rfl)]
    simp only [F_law_product, List.map_cons, List.map_nil, List.replicate, List.cons_append, List.nil_append, Nat.reduceSub, ss_cons, ss_nil]
    have en : (q.length : Int) + (o.length : Int) = ((q.length + o.length : Nat) : Int) := by omega
    have s1 : S.ev (run fns sub w (d + 1)) sub w (.asg (.v 2) (.bin .mul (.lst (.cons (.con (.int 0)) .nil)) (.bin .add (.bi .len (.cons (.var 0) .nil)) (.bi .len (.cons (.var 1) .nil))))) none [some (tZ q), some (tZ o), none, none, none, none, none] h = .nx (stP q o h.length none none none none) (hpM h (List.replicate (q.length + o.length) 0)) := by
      have ll : ([C.int 0] : List C).length ≤ lineN := by show 1 ≤ lineN; decide
      simp only [Ss.ev, S.ev, Hs.ev, E.ev, Es.ev, T.ev, Pt.put, Pts.put, Pts.len, Es.len, Oe.ev, It.ev, bind_ok, bind_err, bind_bad, th_ok, th_err, th_bad, nxth, retth, errth, badth, noerr_ok, fin_nx, fin_ret, fin_err, tidy_same, tidyX_same, List.getElem?_cons_zero, List.getElem?_cons_succ, List.set_cons_zero, List.set_cons_succ, if_pos ll, len_tZ, add_int, bin_mul', en]
      rw [show (h ++ [[C.int 0]]) = h ++ [iZ [0]] from rfl, mul0 _ (by omega)]
      rfl
    have s2 : S.ev (run fns sub w (d + 1)) sub w (.for_ P_law_product_1 (.enum (.var 0)) L_law_product_4) none (stP q o h.length none none none none) (hpM h (List.replicate (q.length + o.length) 0)) = .nx (stP q o h.length x3 x4 x5 x6) (hpM h R1) := by
      rw [S.ev]; exact a1
    rw [s1, nxth, s2, nxth]
    simp only [stP, Ss.ev, S.ev, Hs.ev, E.ev, Es.ev, T.ev, Pt.put, Pts.put, Pts.len, Es.len, Oe.ev, It.ev, bind_ok, bind_err, bind_bad, th_ok, th_err, th_bad, nxth, retth, errth, badth, noerr_ok, fin_nx, fin_ret, fin_err, tidy_same, tidyX_same, List.getElem?_cons_zero, List.getElem?_cons_succ, List.set_cons_zero, List.set_cons_succ, ct]
    have := tidy_cl cl (tZ (trimZ R1)) ([iZ [0]] ++ [iZ R1]) (iZ_unders _ _)
    rw [← List.append_assoc] at this
    exact this
  · by_cases hk : k < q.length + o.length
    · exact a3 k hk
    · rw [getD_big (show R1.length ≤ k by omega), cv_high q (gI o) o.length k (fun i hi => getD_big (by omega)) (by omega)]
/-! ### slopes -/
def slopeZ (xs : List Int) : List Int := (List.range (xs.length - 1)).map fun k => ((k + 1 : Nat) : Int) * gI xs (k + 1)
theorem gI_slope (xs : List Int) (k : Nat) : gI (slopeZ xs) k = ((k + 1 : Nat) : Int) * gI xs (k + 1) := by
  unfold slopeZ
  rw [gI_range]
  split
  · rfl
  · rw [getD_big (show xs.length ≤ k + 1 by omega), Int.mul_zero]
theorem slope_trim {xs : List Int} (t : Trim xs) : Trim (slopeZ xs) := by
  have l : (slopeZ xs).length = xs.length - 1 := by simp [slopeZ]
  by_cases h : xs.length ≤ 1
  · exact .inl (List.eq_nil_of_length_eq_zero (by omega))
  · right
    rw [l, gI_slope, show xs.length - 1 - 1 + 1 = xs.length - 1 by omega]
    rcases t with rfl | t
    · simp at h
    · exact Int.mul_ne_zero (by omega) t
theorem slope_run {i : Nat} (e : fns i = some F_slope) (hw : 1000 < w) (d : Nat) (cl : ClH h) (xs : List Int) (hx : xs.length ≤ 100) (bx : ∀ x ∈ xs, Bd 400 x) : run fns sub w (d + 1) i [tZ xs] h = .ok (tZ (slopeZ xs)) h := by
  obtain ⟨acc, h', c1, rfl, c2⟩ := compF_gen (it := .ent (iZ xs)) (n := xs.length) (el := fun i => .tup [.int (i : Int), .int (gI xs i)]) (g := Pt.put (run fns sub w d) sub w none P_slope_2) (t := T.ev (run fns sub w d) sub w none T_slope_3) (e := E.ev (run fns sub w d) sub w none C_slope_1) (sl := [some (tZ xs), none, none])
    (fun i acc h' => h' = h ∧ acc = iZ ((List.range (i - 1)).map fun k => ((k + 1 : Nat) : Int) * gI xs (k + 1))) (fun i _ h' _ _ => at_entI xs i h') (fun i acc h' ⟨a1, a2⟩ hi => by
      subst a1
      have m1 := mul_of (i := (i : Int)) (j := gI xs i) (bd_small (by omega) (by omega)) (gI_mem (P := Bd 400) bx (bd0 _) i) (by decide) (by decide)
      refine ⟨[some (tZ xs), some (.int (i : Int)), some (.int (gI xs i))], h', ((i : Int) != 0), h', rfl, rfl, fun z => ⟨rfl, ?_⟩, fun z => ⟨?_, .int ((i : Int) * gI xs i), h', ?_, rfl, ?_⟩⟩
      · have : (i : Int) = 0 := by simpa using z
        have : i = 0 := by omega
        rw [a2, this]
      · rw [a2, iZ_len]; simp; exact Nat.lt_of_le_of_lt (show _ ≤ 100 by omega) (by decide)
      · simp only [C_slope_1, Ss.ev, S.ev, Hs.ev, E.ev, Es.ev, T.ev, Pt.put, Pts.put, Pts.len, Es.len, Oe.ev, It.ev, bind_ok, bind_err, bind_bad, th_ok, th_err, th_bad, nxth, retth, errth, badth, noerr_ok, fin_nx, fin_ret, fin_err, tidy_same, tidyX_same, List.getElem?_cons_zero, List.getElem?_cons_succ, List.set_cons_zero, List.set_cons_succ, bin_mul', m1]
      · have hz : (i : Int) ≠ 0 := bne_iff_ne.mp z
        obtain ⟨j, rfl⟩ : ∃ j, i = j + 1 := ⟨i - 1, by omega⟩
        rw [a2, show j + 1 + 1 - 1 = j + 1 by omega, show j + 1 - 1 = j by omega, List.range_succ, List.map_append, iZ_app]
        rfl) w 0 [] h ⟨rfl, rfl⟩ (Nat.zero_le _) (by omega)
  rw [un e _ _ _ rfl (of_decide_eq_true rfl)]
  simp only [F_slope, List.map_cons, List.map_nil, List.replicate, List.cons_append, List.nil_append, Nat.reduceSub, ss_cons, ss_nil]
  rw [S.ev, E.ev, Es.ev, E.ev, show It.ev (run fns sub w d) sub w none (.enum (.var 0)) [some (tZ xs), none, none] h' = .ok (.ent (iZ xs)) h' from rfl, bind_ok]
  rw [show Pt.wipe P_slope_2 [some (tZ xs), none, none] = [some (tZ xs), none, none] from rfl]
  rw [show compF (ItV.ent (iZ xs)) (fun c sl h => Pt.put (run fns sub w d) sub w none P_slope_2 c sl h) (fun sl h => T.ev (run fns sub w d) sub w none T_slope_3 sl h) (fun sl h => E.ev (run fns sub w d) sub w none C_slope_1 sl h) w 0 [some (tZ xs), none, none] [] h' = _ from c1, noerr_ok, bind_ok, bind_ok]
  simp only [Ss.ev, S.ev, Hs.ev, E.ev, Es.ev, T.ev, Pt.put, Pts.put, Pts.len, Es.len, Oe.ev, It.ev, bind_ok, bind_err, bind_bad, th_ok, th_err, th_bad, nxth, retth, errth, badth, noerr_ok, fin_nx, fin_ret, fin_err, tidy_same, tidyX_same, List.getElem?_cons_zero, List.getElem?_cons_succ, List.set_cons_zero, List.set_cons_succ, c2, tuple_ref (last_get h' _)]
  exact tidy_cl cl _ _ (iZ_unders _ _)
/-! ### worths -/
theorem aug_mul_of {a b : Nat} {i j : Int} (h1 : Bd a i) (k : Bd b j) (l : a ≤ 60000) (l2 : b ≤ 60000) (hc : Hc) : augC .mul i j hc = .ok (.int (i * j)) hc := by
  show (if tooBig i || tooBig j then R.bad else R.ok (C.int (i * j)) hc) = _
  rw [tb_of h1 l, tb_of k l2]
  rfl
theorem at_revtI (xs : List Int) (i : Nat) (h : Hc) : (ItV.revt (iZ xs)).at_ i h = if i < xs.length then some (some (.int (gI xs (xs.length - 1 - i)))) else some none := by
  show (if i < (iZ xs).length then (match (iZ xs)[(iZ xs).length - 1 - i]? with
      | some c => some (some c)
      | none => none) else some none) = _
  rw [iZ_len, iZ_get]
  by_cases z : i < xs.length
  · rw [if_pos z, if_pos z, gI_of (by omega)]; rfl
  · rw [if_neg z, if_neg z]
theorem worth_times_run {i : Nat} (e : fns i = some F_worth_times) (hw : 1000 < w) (d : Nat) (xs : List Int) (p u : Int) (hx : xs.length ≤ 100) (bx : ∀ x ∈ xs, Bd 20 x) (hp : Bd 8 p) (hu : Bd 8 u) : run fns sub w (d + 1) i [tZ xs, .int p, .int u] h = .ok (.int (wt p u xs).1) h := by
  obtain ⟨sl', h', l1, ⟨x5, l2⟩, l3⟩ := forF_gen (it := .revt (iZ xs)) (n := xs.length) (el := fun i => .int (gI xs (xs.length - 1 - i))) (g := Pt.put (run fns sub w d) sub w none P_worth_times_1) (b := Ss.ev (run fns sub w d) sub w L_worth_times_2 none)
    (fun i sl h' => (∃ x5, sl = [some (tZ xs), some (.int p), some (.int u), some (.int (wt p u (xs.drop (xs.length - i))).1), some (.int (wt p u (xs.drop (xs.length - i))).2), x5]) ∧ h' = h) (fun i _ h' _ _ => at_revtI xs i h') (fun i sl h' ⟨⟨x5, a1⟩, a2⟩ hi => by
      subst a1 a2
      have dr : xs.drop (xs.length - (i + 1)) = gI xs (xs.length - 1 - i) :: xs.drop (xs.length - i) := by
        rw [List.drop_eq_getElem_cons (show xs.length - (i + 1) < xs.length by omega)]
        congr 1
        · have := gI_of (show xs.length - 1 - i < xs.length by omega)
          rw [List.getElem?_eq_getElem (by omega)] at this
          rw [← Option.some.inj this]
          congr 1
          omega
        · congr 1
          omega
      have dl : (xs.drop (xs.length - i)).length = i := by simp; omega
      have b1 := wt_bd hp hu 20 (xs.drop (xs.length - i)) fun y hy => bx y (List.mem_of_mem_drop hy)
      have b2 : Bd (8 * i + 1) (wt p u (xs.drop (xs.length - i))).2 := by rw [wt_scale, dl]; exact bd_pow hu (by decide) _
      rw [dl] at b1
      have m1 := mul_of (i := (wt p u (xs.drop (xs.length - i))).1) (j := p) b1 hp (by omega) (by decide)
      have m2 := mul_of (i := gI xs (xs.length - 1 - i)) (j := (wt p u (xs.drop (xs.length - i))).2) (gI_mem (P := Bd 20) bx (bd0 _) _) b2 (by decide) (by omega)
      have m3 := aug_mul_of (i := (wt p u (xs.drop (xs.length - i))).2) (j := u) b2 hu (by omega) (by decide)
      refine ⟨[some (tZ xs), some (.int p), some (.int u), some (.int (wt p u (xs.drop (xs.length - i))).1), some (.int (wt p u (xs.drop (xs.length - i))).2), some (.int (gI xs (xs.length - 1 - i)))], h', [some (tZ xs), some (.int p), some (.int u), some (.int (wt p u (xs.drop (xs.length - (i + 1)))).1), some (.int (wt p u (xs.drop (xs.length - (i + 1)))).2), some (.int (gI xs (xs.length - 1 - i)))], h', rfl, .inl ?_, ⟨⟨_, rfl⟩, rfl⟩⟩
      rw [dr]
      simp only [L_worth_times_2, Ss.ev, S.ev, Hs.ev, E.ev, Es.ev, T.ev, Pt.put, Pts.put, Pts.len, Es.len, Oe.ev, It.ev, bind_ok, bind_err, bind_bad, th_ok, th_err, th_bad, nxth, retth, errth, badth, noerr_ok, fin_nx, fin_ret, fin_err, tidy_same, tidyX_same, List.getElem?_cons_zero, List.getElem?_cons_succ, List.set_cons_zero, List.set_cons_succ, bin_mul', m1, m2, m3, add_int]
      rfl) w 0 [some (tZ xs), some (.int p), some (.int u), some (.int 0), some (.int 1), none] h ⟨⟨none, by simp [wt]⟩, rfl⟩ (Nat.zero_le _) (by omega)
  rw [un e _ _ _ rfl (of_decide_eq_true rfl)]
  simp only [F_worth_times, List.map_cons, List.map_nil, List.replicate, List.cons_append, List.nil_append, Nat.reduceSub, ss_cons, ss_nil]
  have s1 : ∀ a b : Option C, S.ev (run fns sub w d) sub w (.asg (.v 3) (.con (.int 0))) none [some (tZ xs), some (.int p), some (.int u), none, none, none] h = .nx [some (tZ xs), some (.int p), some (.int u), some (.int 0), none, none] h := fun _ _ => rfl
  rw [s1 none none, nxth]
  rw [show S.ev (run fns sub w d) sub w (.asg (.v 4) (.con (.int 1))) none [some (tZ xs), some (.int p), some (.int u), some (.int 0), none, none] h = .nx [some (tZ xs), some (.int p), some (.int u), some (.int 0), some (.int 1), none] h from rfl, nxth]
  rw [show S.ev (run fns sub w d) sub w (.for_ P_worth_times_1 (.rev (.var 0)) L_worth_times_2) none [some (tZ xs), some (.int p), some (.int u), some (.int 0), some (.int 1), none] h = .nx sl' h' from l1, nxth, l2, l3]
  simp [Ss.ev, S.ev, Hs.ev, E.ev, Es.ev, T.ev, Pt.put, Pts.put, Pts.len, Es.len, Oe.ev, It.ev, bind_ok, bind_err, bind_bad, th_ok, th_err, th_bad, nxth, retth, errth, badth, noerr_ok, fin_nx, fin_ret, fin_err, tidy_same, tidyX_same, List.getElem?_cons_zero, List.getElem?_cons_succ, List.set_cons_zero, List.set_cons_succ]
/-- in lowest terms, the under above nought -/
def lowP (n u : Int) : C := .tup [.int (n.fdiv (Nat.gcd n.natAbs u.natAbs : Nat)), .int (u.fdiv (Nat.gcd n.natAbs u.natAbs : Nat))]
theorem gcd_i (h : Hc) (i j : Int) : bi .gcd [.int i, .int j] h = .ok (.int (Nat.gcd i.natAbs j.natAbs : Nat)) h := rfl
theorem gcd_ne {n u : Int} (hu : 0 < u) : (Nat.gcd n.natAbs u.natAbs : Int) ≠ 0 := by
  have := Nat.gcd_pos_of_pos_right n.natAbs (Int.natAbs_pos.mpr (show u ≠ 0 by omega))
  omega
theorem gcd_bd {n u : Int} {b : Nat} (hu : 0 < u) (hb : Bd b u) : Bd b (Nat.gcd n.natAbs u.natAbs : Int) := hb.le (Nat.le_of_dvd (Int.natAbs_pos.mpr (show u ≠ 0 by omega)) (Nat.gcd_dvd_right _ _))
theorem lowest_run {i : Nat} (e : fns i = some F_lowest) (d : Nat) (n u : Int) (hu : 0 < u) (hb : Bd 2000 u) : run fns sub w (d + 1) i [.int n, .int u] h = .ok (lowP n u) h := by
  rw [un e _ _ _ rfl (of_decide_eq_true rfl)]
  have hn : ¬ u < 0 := by omega
  have d1 := fun x => div_of (i := x) (gcd_ne (n := n) hu) (gcd_bd hu hb) (by decide) h
  have l2 : (2 : Nat) ≤ lineN := by decide
  simp [F_lowest, Ss.ev, S.ev, Hs.ev, E.ev, Es.ev, T.ev, Pt.put, Pts.put, Pts.len, Es.len, Oe.ev, It.ev, bind_ok, bind_err, bind_bad, th_ok, th_err, th_bad, nxth, retth, errth, badth, noerr_ok, fin_nx, fin_ret, fin_err, tidy_same, tidyX_same, List.getElem?_cons_zero, List.getElem?_cons_succ, List.set_cons_zero, List.set_cons_succ, gcd_i, lt_i, hn, bin_div', d1, l2, lowP]
/-! ### ratios -/
theorem ratio_ok {i j : Nat} (e : fns i = some (F_is_ratio j)) (e1 : fns j = some F_is_integer) (d : Nat) (a b : Int) : run fns sub w (d + 2) i [.tup [.int a, .int b]] h = .ok (.bl (decide (1 ≤ b) && (((Nat.gcd a.natAbs b.natAbs : Nat) : Int) == 1))) h := by
  have ri := fun y => is_integer_run (sub := sub) (w := w) e1 d h y
  rw [un e _ _ _ rfl (of_decide_eq_true rfl)]
  by_cases h1 : 1 ≤ b <;> simp [F_is_ratio, Ss.ev, S.ev, Hs.ev, E.ev, Es.ev, T.ev, Pt.put, Pts.put, Pts.len, Es.len, Oe.ev, It.ev, bind_ok, bind_err, bind_bad, th_ok, th_err, th_bad, nxth, retth, errth, badth, noerr_ok, fin_nx, fin_ret, fin_err, tidy_same, tidyX_same, List.getElem?_cons_zero, List.getElem?_cons_succ, List.set_cons_zero, List.set_cons_succ, ri, isI, isiC, isiT, tyC, truth_b, len_tup', ne_int, gcd_i, ge_i, eq_int, h1, Pts.put, Pts.len]
theorem ratio_nt {i j : Nat} (e : fns i = some (F_is_ratio j)) (d : Nat) (x : C) (hx : isiC x .tuple = false) : run fns sub w (d + 2) i [x] h = .ok (.bl false) h := by
  rw [un e _ _ _ rfl (of_decide_eq_true rfl)]
  simp [F_is_ratio, Ss.ev, S.ev, Hs.ev, E.ev, Es.ev, T.ev, Pt.put, Pts.put, Pts.len, Es.len, Oe.ev, It.ev, bind_ok, bind_err, bind_bad, th_ok, th_err, th_bad, nxth, retth, errth, badth, noerr_ok, fin_nx, fin_ret, fin_err, tidy_same, tidyX_same, List.getElem?_cons_zero, List.getElem?_cons_succ, List.set_cons_zero, List.set_cons_succ, truth_b, hx]
theorem ratio_ni {i j : Nat} (e : fns i = some (F_is_ratio j)) (e1 : fns j = some F_is_integer) (d : Nat) (x y : C) (hx : isI x = false) : run fns sub w (d + 2) i [.tup [x, y]] h = .ok (.bl false) h := by
  have ri := fun y => is_integer_run (sub := sub) (w := w) e1 d h y
  rw [un e _ _ _ rfl (of_decide_eq_true rfl)]
  simp [F_is_ratio, Ss.ev, S.ev, Hs.ev, E.ev, Es.ev, T.ev, Pt.put, Pts.put, Pts.len, Es.len, Oe.ev, It.ev, bind_ok, bind_err, bind_bad, th_ok, th_err, th_bad, nxth, retth, errth, badth, noerr_ok, fin_nx, fin_ret, fin_err, tidy_same, tidyX_same, List.getElem?_cons_zero, List.getElem?_cons_succ, List.set_cons_zero, List.set_cons_succ, ri, hx, isiC, isiT, tyC, truth_b, len_tup', ne_int, Pts.put, Pts.len]
theorem check_ratio_run {i j x0 : Nat} (e : fns i = some (F_check_ratio j x0)) (d : Nat) (x : C) (b : Bool) (hr : run fns sub w d j [x] h = .ok (.bl b) h) : run fns sub w (d + 1) i [x] h = if b then .ok .non h else .err x0 [x] h := by
  rw [un e _ _ _ rfl (of_decide_eq_true rfl)]
  cases b <;> simp [F_check_ratio, Ss.ev, S.ev, Hs.ev, E.ev, Es.ev, T.ev, Pt.put, Pts.put, Pts.len, Es.len, Oe.ev, It.ev, bind_ok, bind_err, bind_bad, th_ok, th_err, th_bad, nxth, retth, errth, badth, noerr_ok, fin_nx, fin_ret, fin_err, tidy_same, tidyX_same, List.getElem?_cons_zero, List.getElem?_cons_succ, List.set_cons_zero, List.set_cons_succ, hr, truth_b]
end
end Sh
set_option linter.all false
set_option autoImplicit false
set_option maxRecDepth 100000
set_option maxHeartbeats 8000000
/-! Sh, part D3: dicts of the store as lists of pairs: put, got, keys sorted. -/
namespace Sh
open PySem
/-- an entry of a dict: the key's numbers, the value -/
def entC (e : List Int × C) : C := .tup (e.2 :: e.1.map C.int)
def putL (k : List Int) (c : C) (L : List (List Int × C)) : List (List Int × C) := if L.any (fun e => decide (e.1 = k)) then L.map (fun e => if e.1 = k then (k, c) else e) else L ++ [(k, c)]
theorem entIs_ent (k : List Int) (e : List Int × C) : entIs k (entC e) = decide (e.1 = k) := by
  show decide (intsC (e.1.map C.int) = some k) = _
  rw [intsC_map]
  simp
theorem entK_ent (e : List Int × C) : entK (entC e) = some e.1 := intsC_map _
theorem dput_ent (k : List Int) (c : C) (L : List (List Int × C)) : dputC k c (L.map entC) = (putL k c L).map entC := by
  unfold dputC putL
  have e1 : (L.map entC).any (entIs k) = L.any fun e => decide (e.1 = k) := by
    rw [List.any_map]
    congr 1
    funext e
    exact entIs_ent k e
  rw [e1]
  split
  · rw [List.map_map, List.map_map]
    refine List.map_congr_left fun e _ => ?_
    show (if entIs k (entC e) = true then C.tup (c :: k.map C.int) else entC e) = entC (if e.1 = k then (k, c) else e)
    rw [entIs_ent]
    by_cases z : e.1 = k
    · rw [if_pos (decide_eq_true z), if_pos z]; rfl
    · rw [if_neg (by simp [z]), if_neg z]
  · rw [List.map_append]; rfl
/-- what a list of pairs holds at a key -/
def gotL (k : List Int) (L : List (List Int × C)) : Option C := (L.find? fun e => decide (e.1 = k)).map (·.2)
theorem dget_ent (k : List Int) (L : List (List Int × C)) : dgetC k (L.map entC) = gotL k L := by
  unfold dgetC gotL
  induction L with
  | nil => rfl
  | cons e L ih =>
    rw [List.map_cons, List.find?_cons, List.find?_cons, entIs_ent]
    by_cases z : e.1 = k
    · rw [decide_eq_true z]; rfl
    · rw [decide_eq_false z]
      exact ih
theorem keys_ent : ∀ L : List (List Int × C), (L.map entC).mapM entK = some (L.map (·.1))
  | [] => rfl
  | e :: L => by
    rw [List.map_cons, List.mapM_cons, entK_ent, keys_ent L]
    rfl
theorem putL_mem {k : List Int} {c : C} {L : List (List Int × C)} {e : List Int × C} (h : e ∈ putL k c L) : e = (k, c) ∨ e ∈ L := by
  unfold putL at h
  split at h
  · obtain ⟨e0, h0, rfl⟩ := List.mem_map.mp h
    by_cases z : e0.1 = k
    · rw [if_pos z]; exact .inl rfl
    · rw [if_neg z]; exact .inr h0
  · rcases List.mem_append.mp h with h | h
    · exact .inr h
    · exact .inl (List.mem_singleton.mp h)
theorem putL_len (k : List Int) (c : C) (L : List (List Int × C)) : (putL k c L).length ≤ L.length + 1 := by
  unfold putL
  split
  · rw [List.length_map]; omega
  · rw [List.length_append]; simp
theorem putL_keys (k : List Int) (c : C) (L : List (List Int × C)) : (putL k c L).map (·.1) = if k ∈ L.map (·.1) then L.map (·.1) else L.map (·.1) ++ [k] := by
  unfold putL
  by_cases z : k ∈ L.map (·.1)
  · have a : L.any (fun e => decide (e.1 = k)) = true := by
      obtain ⟨e, h1, h2⟩ := List.mem_map.mp z
      exact List.any_eq_true.mpr ⟨e, h1, decide_eq_true h2⟩
    rw [if_pos a, if_pos z, List.map_map]
    refine List.map_congr_left fun e _ => ?_
    show (if e.1 = k then (k, c) else e).1 = e.1
    split
    · rename_i q; exact q.symm
    · rfl
  · have a : ¬ L.any (fun e => decide (e.1 = k)) = true := fun h => by
      obtain ⟨e, h1, h2⟩ := List.any_eq_true.mp h
      exact z (List.mem_map.mpr ⟨e, h1, of_decide_eq_true h2⟩)
    rw [if_neg a, if_neg z, List.map_append]; rfl
theorem putL_nd {k : List Int} {c : C} {L : List (List Int × C)} (h : (L.map (·.1)).Nodup) : ((putL k c L).map (·.1)).Nodup := by
  rw [putL_keys]
  split
  · exact h
  · rename_i z
    exact List.nodup_append.mpr ⟨h, by simp, fun a ha b hb e => z (by rw [List.mem_singleton.mp hb] at e; exact e ▸ ha)⟩
theorem gotL_some {k : List Int} {L : List (List Int × C)} (h : k ∈ L.map (·.1)) : ∃ c, gotL k L = some c ∧ (k, c) ∈ L := by
  unfold gotL
  cases e : L.find? (fun e => decide (e.1 = k)) with
  | none =>
    obtain ⟨x, h1, h2⟩ := List.mem_map.mp h
    have := List.find?_eq_none.mp e x h1
    exact absurd (decide_eq_true h2) this
  | some x =>
    have h1 := List.mem_of_find?_eq_some e
    have h2 : x.1 = k := of_decide_eq_true (by simpa using List.find?_some e)
    refine ⟨x.2, rfl, ?_⟩
    rw [← h2]; exact h1
/-- keys of one length, their numbers in range -/
def KeysIn (d : Nat) (ks : List (List Int)) : Prop := ∀ k ∈ ks, k.length = d ∧ ∀ i ∈ k, 0 ≤ i ∧ i < kB
theorem keysOK_in {d : Nat} (hd : 1 ≤ d) : ∀ {ks : List (List Int)}, KeysIn d ks → keysOK ks = true
  | [], _ => rfl
  | x :: r, h => by
    show ((x :: r).all fun ns => decide (ns.length = x.length) && decide (1 ≤ ns.length) && ns.all fun i => decide (0 ≤ i) && decide (i < kB)) = true
    refine List.all_eq_true.mpr fun k hk => ?_
    obtain ⟨h1, h2⟩ := h k hk
    have h0 := (h x List.mem_cons_self).1
    rw [Bool.and_eq_true, Bool.and_eq_true]
    refine ⟨⟨decide_eq_true (by omega), decide_eq_true (by omega)⟩, List.all_eq_true.mpr fun i hi => ?_⟩
    rw [Bool.and_eq_true]
    exact ⟨decide_eq_true (h2 i hi).1, decide_eq_true (h2 i hi).2⟩
theorem sortK_lt {d : Nat} {ks : List (List Int)} (h : KeysIn d ks) (nd : ks.Nodup) : (sortK ks).Pairwise fun a b => ltI a b = true := by
  have hb : ∀ y ∈ ks, y.length = d ∧ TS.Bd kB y := fun y hy => ⟨(h y hy).1, fun i hi => (h y hy).2 i hi⟩
  have p := sortK_perm ks
  have q := sortK_pw hb
  have nd2 : (sortK ks).Nodup := p.nodup_iff.mpr nd
  have hm : ∀ y ∈ sortK ks, y.length = d ∧ TS.Bd kB y := fun y hy => hb y (p.mem_iff.mp hy)
  generalize sortK ks = s at q nd2 hm
  clear p h nd hb
  induction s with
  | nil => exact .nil
  | cons x r ih =>
    obtain ⟨q1, q2⟩ := List.pairwise_cons.mp q
    obtain ⟨n1, n2⟩ := List.nodup_cons.mp nd2
    refine List.pairwise_cons.mpr ⟨fun y hy => ?_, ih q2 n2 fun y hy => hm y (List.mem_cons_of_mem _ hy)⟩
    obtain ⟨a1, a2⟩ := hm x List.mem_cons_self
    obtain ⟨b1, b2⟩ := hm y (List.mem_cons_of_mem _ hy)
    refine (code_ltI (a1.trans b1.symm) a2 b2).mpr ?_
    have := q1 y hy
    have ne : TS.code kB x ≠ TS.code kB y := fun e => n1 (code_inj (a1.trans b1.symm) a2 b2 e ▸ hy)
    omega
theorem sorted_ent {h : Hc} {n d : Nat} {L : List (List Int × C)} (e : h[n]? = some (.bl true :: L.map entC)) (hd : 1 ≤ d) (hk : KeysIn d (L.map (·.1))) (hl : L.length < 64) :
    bi .sorted [.dref n] h = .ok (.ref h.length) (h ++ [(sortK (L.map (·.1))).map fun ns => .tup (ns.map .int)]) := by
  show dsort (.dref n) h = _
  unfold dsort
  dsimp only
  rw [e]
  dsimp only
  rw [keys_ent]
  dsimp only
  rw [if_pos ⟨by rw [List.length_map]; exact hl, keysOK_in hd hk⟩]
theorem dget_at {h : Hc} {n : Nat} {L : List (List Int × C)} {k : List Int} {c : C} (e : h[n]? = some (.bl true :: L.map entC)) (g : gotL k L = some c) : dget (.dref n) (.tup (k.map .int)) h = .ok c h := by
  unfold dget
  dsimp only
  rw [e]
  dsimp only
  rw [show keyN (.tup (k.map C.int)) = some k from intsC_map k]
  dsimp only
  rw [dget_ent, g]
theorem dput_at {h : Hc} {n : Nat} {L : List (List Int × C)} {k : List Int} {c : C} (e : h[n]? = some (.bl true :: L.map entC)) (hl : L.length < 1000) : dput (.dref n) (k.map .int) c h = .ok () (h.set n (.bl true :: (putL k c L).map entC)) := by
  unfold dput
  dsimp only
  rw [e]
  dsimp only
  rw [intsC_map]
  dsimp only
  rw [if_pos (by rw [List.length_map]; exact Nat.lt_trans hl (by decide)), dput_ent]
end Sh
set_option Elab.async false
set_option linter.all false
set_option autoImplicit false
set_option maxRecDepth 100000
set_option maxHeartbeats 8000000

namespace K39
open PySem PySem.Spec PyProof.Rows L2 Sh
def top (i : Nat) : Stmt := PySem.Challenge.pw_whichpaces_k39_any_value_as_machine.main.body.getD i (.Pass ⟨0, 0, 0, 0⟩)
def clsBody : Stmt → List Stmt
  | .ClassDef _ _ _ b _ _ _ _ _ _ _ => b
  | _ => []
def meth (i j : Nat) : Stmt := (clsBody (top i)).getD j (.Pass ⟨0, 0, 0, 0⟩)
abbrev st0 : Stmt := top 1
def N0 : List Str := ["value"]
def P0 : List Str := ["value"]
def b0 : Ss := (.cons (.ret (.andv (.isi (.var 0) .int) (.notv (.isi (.var 0) .bool)))) .nil)
abbrev st1 : Stmt := top 2
def N1 : List Str := ["value"]
def P1 : List Str := ["value"]
def b1 : Ss := (.cons (.ret (.andv (.call 0 (.cons (.var 0) .nil)) (.cmp .ge (.var 0) (.con (.int 0))))) .nil)
abbrev st2 : Stmt := top 8
def N2 : List Str := ["value", "places", "one", "other", "length", "many"]
def P2 : List Str := ["value", "places"]
def b2 : Ss := (.cons (.ifs (.or (.not (.tr (.isi (.var 0) .tuple))) (.cmp .ne (.bi .len (.cons (.var 0) .nil)) (.con (.int 4)))) (.cons (.ret (.con (.bl false))) .nil) .nil) (.cons (.asg (.tup (.cons (.v 2) (.cons (.v 3) (.cons (.v 4) (.cons (.v 5) .nil))))) (.var 0)) (.cons (.ifs (.or (.not (.tr (.call 1 (.cons (.var 2) .nil)))) (.or (.cmp .ge (.var 2) (.var 1)) (.or (.not (.tr (.call 1 (.cons (.var 3) .nil)))) (.cmp .ge (.var 3) (.var 1))))) (.cons (.ret (.con (.bl false))) .nil) .nil) (.cons (.ifs (.or (.not (.tr (.call 0 (.cons (.var 4) .nil)))) (.not (.chn .le .le (.con (.int 1)) (.var 4) (.glob "MOST_LENGTH" (.int 400))))) (.cons (.ret (.con (.bl false))) .nil) .nil) (.cons (.ret (.andv (.call 0 (.cons (.var 5) .nil)) (.chain .le .lt (.con (.int 1)) (.var 5) (.glob "TOO_OFTEN" (.int 10000000000000000000000000000000000000000000000000000000000000000000000000000000000000000000000000000000000000000000000000000000000000000000000000000000000000000000000000000000000000000000000000000000000000000000000000000000000000000000000000000000000000000000000000000000000000000000000000000000000000000000000000000000000000000000000000000000000000000000000000000000000000000000000000000000000000000))))) .nil)))))
abbrev st3 : Stmt := top 9
def N3 : List Str := ["value", "places", "at", "road"]
def P3 : List Str := ["value", "places"]
def b3 : Ss := (.cons (.ifs (.or (.not (.tr (.isi (.var 0) .tuple))) (.cmp .gt (.bi .len (.cons (.var 0) .nil)) (.glob "MOST_ROADS" (.int 60)))) (.cons (.ret (.con (.bl false))) .nil) .nil) (.cons (.ifs (.not (.tr (.bi .all (.cons (.comp (.call 2 (.cons (.var 3) (.cons (.var 1) .nil))) (.v 3) (.seq (.var 0)) .yes) .nil)))) (.cons (.ret (.con (.bl false))) .nil) .nil) (.cons (.ret (.bi .all (.cons (.comp (.cmp .lt (.slc (.idx (.var 0) (.bin .sub (.var 2) (.con (.int 1)))) .none (.some (.con (.int 3)))) (.slc (.idx (.var 0) (.var 2)) .none (.some (.con (.int 3))))) (.v 2) (.rng2 (.con (.int 1)) (.bi .len (.cons (.var 0) .nil))) .yes) .nil))) .nil)))
abbrev st4 : Stmt := top 10
def N4 : List Str := ["value", "word", "places", "roads"]
def P4 : List Str := ["value"]
def b4 : Ss := (.cons (.ifs (.or (.not (.tr (.isi (.var 0) .tuple))) (.cmp .ne (.bi .len (.cons (.var 0) .nil)) (.con (.int 3)))) (.cons (.ret (.con (.bl false))) .nil) .nil) (.cons (.asg (.tup (.cons (.v 1) (.cons (.v 2) (.cons (.v 3) .nil)))) (.var 0)) (.cons (.ifs (.or (.not (.tr (.isi (.var 1) .str))) (.cmp .ne (.var 1) (.con (.str "machine")))) (.cons (.ret (.con (.bl false))) .nil) .nil) (.cons (.ifs (.or (.not (.tr (.call 0 (.cons (.var 2) .nil)))) (.not (.chn .le .le (.con (.int 1)) (.var 2) (.glob "MOST_PLACES" (.int 12))))) (.cons (.ret (.con (.bl false))) .nil) .nil) (.cons (.ret (.call 3 (.cons (.var 3) (.cons (.var 2) .nil)))) .nil)))))
abbrev st5 : Stmt := top 13
def N5 : List Str := ["value", "places", "number"]
def P5 : List Str := ["value", "places"]
def b5 : Ss := (.cons (.ifs (.or (.not (.tr (.isi (.var 0) .tuple))) (.cmp .ne (.bi .len (.cons (.var 0) .nil)) (.var 1))) (.cons (.ret (.con (.bl false))) .nil) .nil) (.cons (.ret (.bi .all (.cons (.comp (.andv (.call 1 (.cons (.var 2) .nil)) (.cmp .le (.var 2) (.glob "MOST_TIES" (.int 1000000)))) (.v 2) (.seq (.var 0)) .yes) .nil))) .nil))
abbrev st6 : Stmt := top 14
def N6 : List Str := ["value", "row"]
def P6 : List Str := ["value"]
def b6 : Ss := (.cons (.ifs (.or (.not (.tr (.isi (.var 0) .tuple))) (.not (.chn .le .le (.con (.int 1)) (.bi .len (.cons (.var 0) .nil)) (.glob "MOST_PLACES" (.int 12))))) (.cons (.ret (.con (.bl false))) .nil) .nil) (.cons (.ret (.bi .all (.cons (.comp (.call 5 (.cons (.var 1) (.cons (.bi .len (.cons (.var 0) .nil)) .nil))) (.v 1) (.seq (.var 0)) .yes) .nil))) .nil))
abbrev st7 : Stmt := top 16
def N7 : List Str := ["script", "k", "cell", "mixed"]
def P7 : List Str := ["script", "k"]
def b7 : Ss := (.cons (.asg (.v 2) (.ite (.cmp .lt (.var 1) (.bi .len (.cons (.var 0) .nil))) (.bi .abs (.cons (.idx (.var 0) (.var 1)) .nil)) (.bin .add (.bin .mul (.con (.int 701)) (.var 1)) (.con (.int 139))))) (.cons (.asg (.v 3) (.bin .add (.bin .mod (.bi .int (.cons (.bin .add (.bin .add (.bin .mul (.bin .mod (.bi .int (.cons (.var 2) .nil)) (.con (.int 2147483549))) (.con (.int 40127))) (.bin .mul (.con (.int 9343)) (.var 1))) (.con (.int 67))) .nil)) (.con (.int 2147483563))) (.con (.int 1)))) (.cons (.ret (.lst (.cons (.bi .max2 (.cons (.con (.int 0)) (.cons (.bin .sub (.var 2) (.bin .pow (.con (.int 10)) (.con (.int 18)))) .nil))) (.cons (.var 3) .nil)))) .nil)))
abbrev st8 : Stmt := top 17
def N8 : List Str := ["pot", "many", "digit"]
def P8 : List Str := ["pot", "many"]
def b8 : Ss := (.cons (.ifs (.cmp .gt (.idx (.var 0) (.con (.int 0))) (.con (.int 0))) (.cons (.asg (.tup (.cons (.sub (.var 0) (.con (.int 0))) (.cons (.v 2) .nil))) (.bi .divmod (.cons (.idx (.var 0) (.con (.int 0))) (.cons (.var 1) .nil)))) (.cons (.ret (.var 2)) .nil)) .nil) (.cons (.asg (.sub (.var 0) (.con (.int 1))) (.bin .mod (.bi .int (.cons (.bin .add (.bin .mul (.idx (.var 0) (.con (.int 1))) (.con (.int 40014))) (.con (.int 9343))) .nil)) (.con (.int 2147483587)))) (.cons (.ret (.bin .mod (.bi .int (.cons (.bin .div (.bin .mod (.bi .int (.cons (.bin .mul (.idx (.var 0) (.con (.int 1))) (.idx (.var 0) (.con (.int 1)))) .nil)) (.con (.int 2147483549))) (.con (.int 19))) .nil)) (.var 1))) .nil)))
abbrev st9 : Stmt := top 18
def N9 : List Str := ["pot", "some"]
def P9 : List Str := ["pot", "some"]
def b9 : Ss := (.cons (.ret (.idx (.var 1) (.call 8 (.cons (.var 0) (.cons (.bi .len (.cons (.var 1) .nil)) .nil))))) .nil)
abbrev st10 : Stmt := top 19
def N10 : List Str := ["value"]
def P10 : List Str := ["value"]
def b10 : Ss := (.cons (.ret (.andv (.isi (.var 0) .int) (.notv (.isi (.var 0) .bool)))) .nil)
abbrev st11 : Stmt := top 20
def N11 : List Str := ["value", "least", "most"]
def P11 : List Str := ["value", "least", "most"]
def b11 : Ss := (.cons (.ret (.andv (.call 10 (.cons (.var 0) .nil)) (.andv (.cmp .ge (.var 0) (.var 1)) (.cmp .le (.var 0) (.var 2))))) .nil)
abbrev st12 : Stmt := top 21
def N12 : List Str := ["value", "places", "near", "far"]
def P12 : List Str := ["value", "places"]
def b12 : Ss := (.cons (.ifs (.or (.not (.tr (.isi (.var 0) .tuple))) (.cmp .ne (.bi .len (.cons (.var 0) .nil)) (.con (.int 4)))) (.cons (.ret (.con (.bl false))) .nil) .nil) (.cons (.asg (.v 2) (.andv (.call 11 (.cons (.idx (.var 0) (.con (.int 0))) (.cons (.con (.int 0)) (.cons (.bin .sub (.var 1) (.con (.int 1))) .nil)))) (.call 11 (.cons (.idx (.var 0) (.con (.int 1))) (.cons (.con (.int 0)) (.cons (.bin .sub (.var 1) (.con (.int 1))) .nil)))))) (.cons (.asg (.v 3) (.andv (.call 11 (.cons (.idx (.var 0) (.con (.int 2))) (.cons (.con (.int 1)) (.cons (.con (.int 400)) .nil)))) (.call 11 (.cons (.idx (.var 0) (.con (.int 3))) (.cons (.con (.int 1)) (.cons (.bin .sub (.bin .pow (.bin .pow (.con (.int 10)) (.con (.int 50))) (.con (.int 8))) (.con (.int 1))) .nil)))))) (.cons (.ret (.andv (.var 2) (.var 3))) .nil))))
abbrev st13 : Stmt := top 22
def N13 : List Str := ["value", "last", "road"]
def P13 : List Str := ["value"]
def b13 : Ss := (.cons (.ifs (.or (.not (.tr (.isi (.var 0) .tuple))) (.or (.cmp .ne (.bi .len (.cons (.var 0) .nil)) (.con (.int 3))) (.cmp .ne (.idx (.var 0) (.con (.int 0))) (.con (.str "machine"))))) (.cons (.ret (.con (.bl false))) .nil) .nil) (.cons (.ifs (.or (.not (.tr (.call 11 (.cons (.idx (.var 0) (.con (.int 1))) (.cons (.con (.int 1)) (.cons (.con (.int 12)) .nil)))))) (.not (.tr (.isi (.idx (.var 0) (.con (.int 2))) .tuple)))) (.cons (.ret (.con (.bl false))) .nil) .nil) (.cons (.ifs (.cmp .gt (.bi .len (.cons (.idx (.var 0) (.con (.int 2))) .nil)) (.con (.int 60))) (.cons (.ret (.con (.bl false))) .nil) .nil) (.cons (.asg (.v 1) (.tup (.cons (.neg (.con (.int 1))) (.cons (.neg (.con (.int 1))) (.cons (.neg (.con (.int 1))) .nil))))) (.cons (.for_ (.v 2) (.seq (.idx (.var 0) (.con (.int 2)))) (.cons (.ifs (.or (.not (.tr (.call 12 (.cons (.var 2) (.cons (.idx (.var 0) (.con (.int 1))) .nil))))) (.cmp .le (.slc (.var 2) .none (.some (.con (.int 3)))) (.var 1))) (.cons (.ret (.con (.bl false))) .nil) .nil) (.cons (.asg (.v 1) (.slc (.var 2) .none (.some (.con (.int 3))))) .nil))) (.cons (.ret (.con (.bl true))) .nil))))))
abbrev st14 : Stmt := top 23
def N14 : List Str := ["value", "row", "number"]
def P14 : List Str := ["value"]
def b14 : Ss := (.cons (.ifs (.or (.not (.tr (.isi (.var 0) .tuple))) (.inr (.bi .len (.cons (.var 0) .nil)) true (.cons (.con (.int 1)) (.cons (.con (.int 13)) .nil)))) (.cons (.ret (.con (.bl false))) .nil) .nil) (.cons (.for_ (.v 1) (.seq (.var 0)) (.cons (.ifs (.or (.not (.tr (.isi (.var 1) .tuple))) (.cmp .ne (.bi .len (.cons (.var 1) .nil)) (.bi .len (.cons (.var 0) .nil)))) (.cons (.ret (.con (.bl false))) .nil) .nil) (.cons (.for_ (.v 2) (.seq (.var 1)) (.cons (.ifs (.not (.tr (.call 11 (.cons (.var 2) (.cons (.con (.int 0)) (.cons (.bin .pow (.con (.int 10)) (.con (.int 6))) .nil)))))) (.cons (.ret (.con (.bl false))) .nil) .nil) .nil)) .nil))) (.cons (.ret (.con (.bl true))) .nil)))
abbrev st15 : Stmt := top 24
def N15 : List Str := ["pot", "places", "roads", "turn", "key"]
def P15 : List Str := ["pot"]
def b15 : Ss := (.cons (.asg (.tup (.cons (.v 1) (.cons (.v 2) .nil))) (.tup (.cons (.bin .add (.con (.int 1)) (.call 8 (.cons (.var 0) (.cons (.con (.int 3)) .nil)))) (.cons .dnew .nil)))) (.cons (.for_ (.v 3) (.rng1 (.call 8 (.cons (.var 0) (.cons (.con (.int 5)) .nil)))) (.kput 4 (.cons (.call 8 (.cons (.var 0) (.cons (.var 1) .nil))) (.cons (.call 8 (.cons (.var 0) (.cons (.var 1) .nil))) (.cons (.bin .add (.con (.int 1)) (.call 8 (.cons (.var 0) (.cons (.con (.int 4)) .nil)))) .nil))) (.var 2) (.bin .add (.con (.int 1)) (.call 8 (.cons (.var 0) (.cons (.con (.int 3)) .nil)))) .nil)) (.cons (.ret (.tup (.cons (.con (.str "machine")) (.cons (.var 1) (.cons (.bi .tuple (.cons (.comp (.bin .add (.var 4) (.tup (.cons (.dget (.var 2) (.var 4)) .nil))) (.v 4) (.seq (.bi .sorted (.cons (.var 2) .nil))) .yes) .nil)) .nil))))) .nil)))
abbrev st16 : Stmt := top 25
def N16 : List Str := ["pot", "places", "rows", "place", "row", "other"]
def P16 : List Str := ["pot"]
def b16 : Ss := (.cons (.par 1 2 (.bin .add (.con (.int 1)) (.call 8 (.cons (.var 0) (.cons (.con (.int 4)) .nil)))) (.lst .nil)) (.cons (.for_ (.v 3) (.rng1 (.var 1)) (.cons (.asg (.v 4) (.lst .nil)) (.cons (.for_ (.v 5) (.rng1 (.var 1)) (.cons (.app (.var 4) (.call 8 (.cons (.var 0) (.cons (.con (.int 4)) .nil)))) .nil)) (.cons (.app (.var 2) (.bi .tuple (.cons (.var 4) .nil))) .nil)))) (.cons (.ret (.bi .tuple (.cons (.var 2) .nil))) .nil)))
abbrev st17 : Stmt := top 26
def N17 : List Str := ["pot", "some"]
def P17 : List Str := ["pot"]
def b17 : Ss := (.cons (.asg (.v 1) (.lst (.cons (.con .non) (.cons (.con (.bl true)) (.cons (.con (.bl false)) (.cons (.con (.str "machine")) (.cons (.con (.int 0)) (.cons (.con (.int 1)) (.cons (.neg (.con (.int 1))) (.cons (.con (.int 12)) (.cons (.con (.int 13)) (.cons (.con (.int 400)) (.cons (.con (.int 401)) (.cons (.bin .pow (.con (.int 10)) (.con (.int 6))) (.cons (.bin .add (.bin .pow (.con (.int 10)) (.con (.int 6))) (.con (.int 1))) .nil))))))))))))))) (.cons (.ext (.var 1) (.lst (.cons (.bin .pow (.con (.int 10)) (.con (.int 38))) (.cons (.bin .pow (.con (.int 10)) (.con (.int 39))) .nil)))) (.cons (.ret (.call 9 (.cons (.var 0) (.cons (.bin .add (.var 1) (.lst (.cons (.tup .nil) (.cons (.lst .nil) (.cons (.tup (.cons (.con (.int 1)) .nil)) (.cons (.con (.str "")) (.cons (.tup (.cons (.con (.int 0)) (.cons (.con (.int 0)) (.cons (.con (.int 1)) (.cons (.con (.int 1)) .nil))))) .nil))))))) .nil)))) .nil)))
abbrev st18 : Stmt := top 27
def N18 : List Str := ["pot", "value", "deep", "at", "way"]
def P18 : List Str := ["pot", "value", "deep"]
def b18 : Ss := (.cons (.ifs (.or (.not (.tr (.isi (.var 1) .tuple))) (.or (.cmp .eq (.var 1) (.tup .nil)) (.cmp .eq (.var 2) (.con (.int 0))))) (.cons (.ret (.call 17 (.cons (.var 0) .nil))) .nil) .nil) (.cons (.par 3 4 (.call 8 (.cons (.var 0) (.cons (.bi .len (.cons (.var 1) .nil)) .nil))) (.call 8 (.cons (.var 0) (.cons (.con (.int 8)) .nil)))) (.cons (.ifs (.cmp .eq (.var 4) (.con (.int 0))) (.cons (.ret (.bin .add (.slc (.var 1) .none (.some (.var 3))) (.slc (.var 1) (.some (.bin .add (.var 3) (.con (.int 1)))) .none))) .nil) .nil) (.cons (.ifs (.cmp .eq (.var 4) (.con (.int 1))) (.cons (.ret (.bin .add (.slc (.var 1) .none (.some (.bin .add (.var 3) (.con (.int 1))))) (.slc (.var 1) (.some (.var 3)) .none))) .nil) .nil) (.cons (.ifs (.cmp .eq (.var 4) (.con (.int 2))) (.cons (.ret (.bin .add (.bin .add (.bin .add (.slc (.var 1) .none (.some (.var 3))) (.slc (.var 1) (.some (.bin .add (.var 3) (.con (.int 1)))) (.some (.bin .add (.var 3) (.con (.int 2)))))) (.slc (.var 1) (.some (.var 3)) (.some (.bin .add (.var 3) (.con (.int 1)))))) (.slc (.var 1) (.some (.bin .add (.var 3) (.con (.int 2)))) .none))) .nil) .nil) (.cons (.ifs (.cmp .eq (.var 4) (.con (.int 3))) (.cons (.ret (.bi .list (.cons (.var 1) .nil))) .nil) .nil) (.cons (.ret (.bin .add (.bin .add (.slc (.var 1) .none (.some (.var 3))) (.tup (.cons (.call 18 (.cons (.var 0) (.cons (.idx (.var 1) (.var 3)) (.cons (.bin .sub (.var 2) (.con (.int 1))) .nil)))) .nil))) (.slc (.var 1) (.some (.bin .add (.var 3) (.con (.int 1)))) .none))) .nil)))))))
abbrev st19 : Stmt := top 28
def N19 : List Str := ["pot", "machine", "table", "many", "values", "turn", "value", "shown", "told", "due", "length"]
def P19 : List Str := ["pot"]
def b19 : Ss := (.cons (.par 1 2 (.call 15 (.cons (.var 0) .nil)) (.call 16 (.cons (.var 0) .nil))) (.cons (.ifs (.or (.cmp .isn (.call 4 (.cons (.var 1) .nil)) (.con (.bl true))) (.cmp .isn (.call 6 (.cons (.var 2) .nil)) (.con (.bl true)))) (.cons (.ret (.con (.bl false))) .nil) .nil) (.cons (.asg (.v 3) (.call 9 (.cons (.var 0) (.cons (.lst (.cons (.con (.int 59)) (.cons (.con (.int 60)) (.cons (.con (.int 61)) .nil)))) .nil)))) (.cons (.asg (.v 4) (.lst (.cons (.var 1) (.cons (.var 2) (.cons (.tup .nil) (.cons (.con .non) (.cons (.call 17 (.cons (.var 0) .nil)) .nil))))))) (.cons (.app (.var 4) (.tup (.cons (.con (.str "machine")) (.cons (.con (.int 1)) (.cons (.bi .tuple (.cons (.comp (.tup (.cons (.con (.int 0)) (.cons (.con (.int 0)) (.cons (.bin .add (.con (.int 1)) (.var 10)) (.cons (.con (.int 1)) .nil))))) (.v 10) (.rng1 (.var 3)) .yes) .nil)) .nil))))) (.cons (.app (.var 4) (.bin .mul (.tup (.cons (.bin .mul (.tup (.cons (.con (.int 0)) .nil)) (.bin .sub (.var 3) (.con (.int 48)))) .nil)) (.bin .sub (.var 3) (.con (.int 48))))) (.cons (.for_ (.v 5) (.rng1 (.con (.int 6))) (.cons (.app (.var 4) (.call 18 (.cons (.var 0) (.cons (.var 1) (.cons (.bin .add (.con (.int 1)) (.call 8 (.cons (.var 0) (.cons (.con (.int 3)) .nil)))) .nil))))) (.cons (.app (.var 4) (.call 18 (.cons (.var 0) (.cons (.var 2) (.cons (.bin .add (.con (.int 1)) (.call 8 (.cons (.var 0) (.cons (.con (.int 2)) .nil)))) .nil))))) .nil))) (.cons (.for_ (.v 6) (.seq (.var 4)) (.cons (.asg (.v 7) (.bi .repr (.cons (.var 6) .nil))) (.cons (.asg (.v 8) (.lst (.cons (.call 4 (.cons (.var 6) .nil)) (.cons (.callk 4 .nil (.cons (.var 6) .nil) [0]) .nil)))) (.cons (.asg (.v 8) (.bin .add (.var 8) (.lst (.cons (.call 6 (.cons (.var 6) .nil)) (.cons (.callk 6 .nil (.cons (.var 6) .nil) [0]) .nil))))) (.cons (.asg (.v 9) (.bin .add (.bin .mul (.lst (.cons (.call 13 (.cons (.var 6) .nil)) .nil)) (.con (.int 2))) (.bin .mul (.lst (.cons (.call 14 (.cons (.var 6) .nil)) .nil)) (.con (.int 2))))) (.cons (.ifs (.or (.cmp .ne (.bi .repr (.cons (.var 8) .nil)) (.bi .repr (.cons (.var 9) .nil))) (.cmp .ne (.bi .repr (.cons (.var 6) .nil)) (.var 7))) (.cons (.ret (.con (.bl false))) .nil) .nil) .nil)))))) (.cons (.ret (.con (.bl true))) .nil)))))))))
abbrev st20 : Stmt := top 29
def N20 : List Str := ["script"]
def P20 : List Str := ["script"]
def b20 : Ss := (.cons (.ret (.call 19 (.cons (.call 7 (.cons (.var 0) (.cons (.con (.int 0)) .nil))) .nil))) .nil)
def its : List Item := [⟨"is_integer", st0, N0, P0, b0⟩, ⟨"is_count", st1, N1, P1, b1⟩, ⟨"is_road", st2, N2, P2, b2⟩, ⟨"are_roads", st3, N3, P3, b3⟩, ⟨"is_machine", st4, N4, P4, b4⟩, ⟨"is_table_row", st5, N5, P5, b5⟩, ⟨"is_table", st6, N6, P6, b6⟩, ⟨"_law_pot", st7, N7, P7, b7⟩, ⟨"_law_draw", st8, N8, P8, b8⟩, ⟨"_law_pick", st9, N9, P9, b9⟩, ⟨"_law_is_integer", st10, N10, P10, b10⟩, ⟨"_law_is_within", st11, N11, P11, b11⟩, ⟨"_law_is_road", st12, N12, P12, b12⟩, ⟨"_law_machine_eye", st13, N13, P13, b13⟩, ⟨"_law_table_eye", st14, N14, P14, b14⟩, ⟨"_law_machine", st15, N15, P15, b15⟩, ⟨"_law_table", st16, N16, P16, b16⟩, ⟨"_law_odd", st17, N17, P17, b17⟩, ⟨"_law_bent", st18, N18, P18, b18⟩, ⟨"_law_right", st19, N19, P19, b19⟩, ⟨"law", st20, N20, P20, b20⟩]
def c0 : Cfx where
  cf := { N := [], kind := fun _ => none, fn := its.map fun it => (it.x, it.ps), kw := [(6, 0, ["value"], [0]), (4, 0, ["value"], [0])], con := [("TOO_OFTEN", .int 10000000000000000000000000000000000000000000000000000000000000000000000000000000000000000000000000000000000000000000000000000000000000000000000000000000000000000000000000000000000000000000000000000000000000000000000000000000000000000000000000000000000000000000000000000000000000000000000000000000000000000000000000000000000000000000000000000000000000000000000000000000000000000000000000000000000000000), ("MOST_LENGTH", .int 400), ("MOST_ROADS", .int 60), ("MOST_PLACES", .int 12), ("MOST_TIES", .int 1000000)], bn := ["abs", "all", "bool", "divmod", "int", "isinstance", "len", "list", "max", "range", "repr", "sorted", "str", "tuple"], gcd := false, kd := [] }
  ex := []
  hd := []
  fs := []
  cl := []
  hot := []
def sub : Nat → Str → Option Bool := fun k x => ([] : List ((Nat × Str) × Bool)).lookup (k, x)
theorem sc0 : FnScope N0 P0 (defScope st0) := ⟨rfl, rfl, rfl, by decide +kernel, rfl, by decide +kernel, by decide +kernel⟩
theorem ok0 : Item.Ok c0 ⟨"is_integer", st0, N0, P0, b0⟩ := ⟨sc0, by decide +kernel⟩
theorem sc1 : FnScope N1 P1 (defScope st1) := ⟨rfl, rfl, rfl, by decide +kernel, rfl, by decide +kernel, by decide +kernel⟩
theorem ok1 : Item.Ok c0 ⟨"is_count", st1, N1, P1, b1⟩ := ⟨sc1, by decide +kernel⟩
theorem sc2 : FnScope N2 P2 (defScope st2) := ⟨rfl, rfl, rfl, by decide +kernel, rfl, by decide +kernel, by decide +kernel⟩
theorem ok2 : Item.Ok c0 ⟨"is_road", st2, N2, P2, b2⟩ := ⟨sc2, by decide +kernel⟩
theorem sc3 : FnScope N3 P3 (defScope st3) := ⟨rfl, rfl, rfl, by decide +kernel, rfl, by decide +kernel, by decide +kernel⟩
theorem ok3 : Item.Ok c0 ⟨"are_roads", st3, N3, P3, b3⟩ := ⟨sc3, by decide +kernel⟩
theorem sc4 : FnScope N4 P4 (defScope st4) := ⟨rfl, rfl, rfl, by decide +kernel, rfl, by decide +kernel, by decide +kernel⟩
theorem ok4 : Item.Ok c0 ⟨"is_machine", st4, N4, P4, b4⟩ := ⟨sc4, by decide +kernel⟩
theorem sc5 : FnScope N5 P5 (defScope st5) := ⟨rfl, rfl, rfl, by decide +kernel, rfl, by decide +kernel, by decide +kernel⟩
theorem ok5 : Item.Ok c0 ⟨"is_table_row", st5, N5, P5, b5⟩ := ⟨sc5, by decide +kernel⟩
theorem sc6 : FnScope N6 P6 (defScope st6) := ⟨rfl, rfl, rfl, by decide +kernel, rfl, by decide +kernel, by decide +kernel⟩
theorem ok6 : Item.Ok c0 ⟨"is_table", st6, N6, P6, b6⟩ := ⟨sc6, by decide +kernel⟩
theorem sc7 : FnScope N7 P7 (defScope st7) := ⟨rfl, rfl, rfl, by decide +kernel, rfl, by decide +kernel, by decide +kernel⟩
theorem ok7 : Item.Ok c0 ⟨"_law_pot", st7, N7, P7, b7⟩ := ⟨sc7, by decide +kernel⟩
theorem sc8 : FnScope N8 P8 (defScope st8) := ⟨rfl, rfl, rfl, by decide +kernel, rfl, by decide +kernel, by decide +kernel⟩
theorem ok8 : Item.Ok c0 ⟨"_law_draw", st8, N8, P8, b8⟩ := ⟨sc8, by decide +kernel⟩
theorem sc9 : FnScope N9 P9 (defScope st9) := ⟨rfl, rfl, rfl, by decide +kernel, rfl, by decide +kernel, by decide +kernel⟩
theorem ok9 : Item.Ok c0 ⟨"_law_pick", st9, N9, P9, b9⟩ := ⟨sc9, by decide +kernel⟩
theorem sc10 : FnScope N10 P10 (defScope st10) := ⟨rfl, rfl, rfl, by decide +kernel, rfl, by decide +kernel, by decide +kernel⟩
theorem ok10 : Item.Ok c0 ⟨"_law_is_integer", st10, N10, P10, b10⟩ := ⟨sc10, by decide +kernel⟩
theorem sc11 : FnScope N11 P11 (defScope st11) := ⟨rfl, rfl, rfl, by decide +kernel, rfl, by decide +kernel, by decide +kernel⟩
theorem ok11 : Item.Ok c0 ⟨"_law_is_within", st11, N11, P11, b11⟩ := ⟨sc11, by decide +kernel⟩
theorem sc12 : FnScope N12 P12 (defScope st12) := ⟨rfl, rfl, rfl, by decide +kernel, rfl, by decide +kernel, by decide +kernel⟩
theorem ok12 : Item.Ok c0 ⟨"_law_is_road", st12, N12, P12, b12⟩ := ⟨sc12, by decide +kernel⟩
theorem sc13 : FnScope N13 P13 (defScope st13) := ⟨rfl, rfl, rfl, by decide +kernel, rfl, by decide +kernel, by decide +kernel⟩
theorem ok13 : Item.Ok c0 ⟨"_law_machine_eye", st13, N13, P13, b13⟩ := ⟨sc13, by decide +kernel⟩
theorem sc14 : FnScope N14 P14 (defScope st14) := ⟨rfl, rfl, rfl, by decide +kernel, rfl, by decide +kernel, by decide +kernel⟩
theorem ok14 : Item.Ok c0 ⟨"_law_table_eye", st14, N14, P14, b14⟩ := ⟨sc14, by decide +kernel⟩
theorem sc15 : FnScope N15 P15 (defScope st15) := ⟨rfl, rfl, rfl, by decide +kernel, rfl, by decide +kernel, by decide +kernel⟩
theorem ok15 : Item.Ok c0 ⟨"_law_machine", st15, N15, P15, b15⟩ := ⟨sc15, by decide +kernel⟩
theorem sc16 : FnScope N16 P16 (defScope st16) := ⟨rfl, rfl, rfl, by decide +kernel, rfl, by decide +kernel, by decide +kernel⟩
theorem ok16 : Item.Ok c0 ⟨"_law_table", st16, N16, P16, b16⟩ := ⟨sc16, by decide +kernel⟩
theorem sc17 : FnScope N17 P17 (defScope st17) := ⟨rfl, rfl, rfl, by decide +kernel, rfl, by decide +kernel, by decide +kernel⟩
theorem ok17 : Item.Ok c0 ⟨"_law_odd", st17, N17, P17, b17⟩ := ⟨sc17, by decide +kernel⟩
theorem sc18 : FnScope N18 P18 (defScope st18) := ⟨rfl, rfl, rfl, by decide +kernel, rfl, by decide +kernel, by decide +kernel⟩
theorem ok18 : Item.Ok c0 ⟨"_law_bent", st18, N18, P18, b18⟩ := ⟨sc18, by decide +kernel⟩
theorem sc19 : FnScope N19 P19 (defScope st19) := ⟨rfl, rfl, rfl, by decide +kernel, rfl, by decide +kernel, by decide +kernel⟩
theorem ok19 : Item.Ok c0 ⟨"_law_right", st19, N19, P19, b19⟩ := ⟨sc19, by decide +kernel⟩
theorem sc20 : FnScope N20 P20 (defScope st20) := ⟨rfl, rfl, rfl, by decide +kernel, rfl, by decide +kernel, by decide +kernel⟩
theorem ok20 : Item.Ok c0 ⟨"law", st20, N20, P20, b20⟩ := ⟨sc20, by decide +kernel⟩
theorem all_ok : ∀ it ∈ its, it.Ok c0 := by
  intro it h
  simp only [its, List.mem_cons, List.not_mem_nil, or_false] at h
  rcases h with rfl | rfl | rfl | rfl | rfl | rfl | rfl | rfl | rfl | rfl | rfl | rfl | rfl | rfl | rfl | rfl | rfl | rfl | rfl | rfl | rfl
  · exact ok0
  · exact ok1
  · exact ok2
  · exact ok3
  · exact ok4
  · exact ok5
  · exact ok6
  · exact ok7
  · exact ok8
  · exact ok9
  · exact ok10
  · exact ok11
  · exact ok12
  · exact ok13
  · exact ok14
  · exact ok15
  · exact ok16
  · exact ok17
  · exact ok18
  · exact ok19
  · exact ok20
end K39
set_option Elab.async false
set_option linter.all false
set_option autoImplicit false
set_option maxRecDepth 100000
set_option maxHeartbeats 8000000
namespace K39
open PySem PySem.Spec PyProof.Rows L2 Sh
def WH : Nat := 2 ^ 200
abbrev DP : Nat := 12
set_option linter.unusedVariables false in
theorem all_mk {P : Program} {w : World} {K : PySem.W.Frag} {h : Heap} {mg : Str → Option Value} {fa : Addr} (X : K.In h) (G : h.Ns mainGlobals mg) (hfa : mg "law" = some (.ref fa))
    {tk_TOO_OFTEN : Tok}
    {tk_MOST_LENGTH : Tok}
    {tk_MOST_ROADS : Tok}
    {tk_MOST_PLACES : Tok}
    {tk_MOST_TIES : Tok}
    {f0 : Addr} {od0 an0 : Option Addr} {sl0 : Array (Option Value)} {oc0 kV0 dc0 pm0 cd0 ct0 : Value}
    {f1 : Addr} {od1 an1 : Option Addr} {sl1 : Array (Option Value)} {oc1 kV1 dc1 pm1 cd1 ct1 : Value}
    {f2 : Addr} {od2 an2 : Option Addr} {sl2 : Array (Option Value)} {oc2 kV2 dc2 pm2 cd2 ct2 : Value}
    {f3 : Addr} {od3 an3 : Option Addr} {sl3 : Array (Option Value)} {oc3 kV3 dc3 pm3 cd3 ct3 : Value}
    {f4 : Addr} {od4 an4 : Option Addr} {sl4 : Array (Option Value)} {oc4 kV4 dc4 pm4 cd4 ct4 : Value}
    {f5 : Addr} {od5 an5 : Option Addr} {sl5 : Array (Option Value)} {oc5 kV5 dc5 pm5 cd5 ct5 : Value}
    {f6 : Addr} {od6 an6 : Option Addr} {sl6 : Array (Option Value)} {oc6 kV6 dc6 pm6 cd6 ct6 : Value}
    {f7 : Addr} {od7 an7 : Option Addr} {sl7 : Array (Option Value)} {oc7 kV7 dc7 pm7 cd7 ct7 : Value}
    {f8 : Addr} {od8 an8 : Option Addr} {sl8 : Array (Option Value)} {oc8 kV8 dc8 pm8 cd8 ct8 : Value}
    {f9 : Addr} {od9 an9 : Option Addr} {sl9 : Array (Option Value)} {oc9 kV9 dc9 pm9 cd9 ct9 : Value}
    {f10 : Addr} {od10 an10 : Option Addr} {sl10 : Array (Option Value)} {oc10 kV10 dc10 pm10 cd10 ct10 : Value}
    {f11 : Addr} {od11 an11 : Option Addr} {sl11 : Array (Option Value)} {oc11 kV11 dc11 pm11 cd11 ct11 : Value}
    {f12 : Addr} {od12 an12 : Option Addr} {sl12 : Array (Option Value)} {oc12 kV12 dc12 pm12 cd12 ct12 : Value}
    {f13 : Addr} {od13 an13 : Option Addr} {sl13 : Array (Option Value)} {oc13 kV13 dc13 pm13 cd13 ct13 : Value}
    {f14 : Addr} {od14 an14 : Option Addr} {sl14 : Array (Option Value)} {oc14 kV14 dc14 pm14 cd14 ct14 : Value}
    {f15 : Addr} {od15 an15 : Option Addr} {sl15 : Array (Option Value)} {oc15 kV15 dc15 pm15 cd15 ct15 : Value}
    {f16 : Addr} {od16 an16 : Option Addr} {sl16 : Array (Option Value)} {oc16 kV16 dc16 pm16 cd16 ct16 : Value}
    {f17 : Addr} {od17 an17 : Option Addr} {sl17 : Array (Option Value)} {oc17 kV17 dc17 pm17 cd17 ct17 : Value}
    {f18 : Addr} {od18 an18 : Option Addr} {sl18 : Array (Option Value)} {oc18 kV18 dc18 pm18 cd18 ct18 : Value}
    {f19 : Addr} {od19 an19 : Option Addr} {sl19 : Array (Option Value)} {oc19 kV19 dc19 pm19 cd19 ct19 : Value}
    {f20 : Addr} {od20 an20 : Option Addr} {sl20 : Array (Option Value)} {oc20 kV20 dc20 pm20 cd20 ct20 : Value}
    (sG : PySem.W.specialIn K (.builtin "object.__class__") "__get__" = some (some (.builtin "getset_descriptor.__get__")))
    (sT : PySem.W.takesIn K (.builtin "object.__class__") = some true)
    (z_abs : PySem.W.nsIn K mainGlobals "abs" = some none)
    (z_all : PySem.W.nsIn K mainGlobals "all" = some none)
    (z_bool : PySem.W.nsIn K mainGlobals "bool" = some none)
    (z_divmod : PySem.W.nsIn K mainGlobals "divmod" = some none)
    (z_int : PySem.W.nsIn K mainGlobals "int" = some none)
    (z_isinstance : PySem.W.nsIn K mainGlobals "isinstance" = some none)
    (z_len : PySem.W.nsIn K mainGlobals "len" = some none)
    (z_list : PySem.W.nsIn K mainGlobals "list" = some none)
    (z_max : PySem.W.nsIn K mainGlobals "max" = some none)
    (z_range : PySem.W.nsIn K mainGlobals "range" = some none)
    (z_repr : PySem.W.nsIn K mainGlobals "repr" = some none)
    (z_sorted : PySem.W.nsIn K mainGlobals "sorted" = some none)
    (z_str : PySem.W.nsIn K mainGlobals "str" = some none)
    (z_tuple : PySem.W.nsIn K mainGlobals "tuple" = some none)
    (zc_TOO_OFTEN : PySem.W.nsIn K mainGlobals "TOO_OFTEN" = some (some (.int 10000000000000000000000000000000000000000000000000000000000000000000000000000000000000000000000000000000000000000000000000000000000000000000000000000000000000000000000000000000000000000000000000000000000000000000000000000000000000000000000000000000000000000000000000000000000000000000000000000000000000000000000000000000000000000000000000000000000000000000000000000000000000000000000000000000000000000 tk_TOO_OFTEN)))
    (zc_MOST_LENGTH : PySem.W.nsIn K mainGlobals "MOST_LENGTH" = some (some (.int 400 tk_MOST_LENGTH)))
    (zc_MOST_ROADS : PySem.W.nsIn K mainGlobals "MOST_ROADS" = some (some (.int 60 tk_MOST_ROADS)))
    (zc_MOST_PLACES : PySem.W.nsIn K mainGlobals "MOST_PLACES" = some (some (.int 12 tk_MOST_PLACES)))
    (zc_MOST_TIES : PySem.W.nsIn K mainGlobals "MOST_TIES" = some (some (.int 1000000 tk_MOST_TIES)))
    (a0 : PySem.W.nsIn K mainGlobals "is_integer" = some (some (.ref f0)))
    (l0 : K.lookup f0 = some ⟨oc0, od0, .func (PySem.W.fnOf "is_integer" "is_integer" (defArgs st0) (defBody st0) (defScope st0) .none kV0 dc0 pm0 an0 cd0 ct0), sl0⟩)
    (cc0 : PySem.W.codeIn K cd0 "is_integer" = true)
    (k0 : PySem.W.keepIn K (.ref f0) = true)
    (a1 : PySem.W.nsIn K mainGlobals "is_count" = some (some (.ref f1)))
    (l1 : K.lookup f1 = some ⟨oc1, od1, .func (PySem.W.fnOf "is_count" "is_count" (defArgs st1) (defBody st1) (defScope st1) .none kV1 dc1 pm1 an1 cd1 ct1), sl1⟩)
    (cc1 : PySem.W.codeIn K cd1 "is_count" = true)
    (k1 : PySem.W.keepIn K (.ref f1) = true)
    (a2 : PySem.W.nsIn K mainGlobals "is_road" = some (some (.ref f2)))
    (l2 : K.lookup f2 = some ⟨oc2, od2, .func (PySem.W.fnOf "is_road" "is_road" (defArgs st2) (defBody st2) (defScope st2) .none kV2 dc2 pm2 an2 cd2 ct2), sl2⟩)
    (cc2 : PySem.W.codeIn K cd2 "is_road" = true)
    (k2 : PySem.W.keepIn K (.ref f2) = true)
    (a3 : PySem.W.nsIn K mainGlobals "are_roads" = some (some (.ref f3)))
    (l3 : K.lookup f3 = some ⟨oc3, od3, .func (PySem.W.fnOf "are_roads" "are_roads" (defArgs st3) (defBody st3) (defScope st3) .none kV3 dc3 pm3 an3 cd3 ct3), sl3⟩)
    (cc3 : PySem.W.codeIn K cd3 "are_roads" = true)
    (k3 : PySem.W.keepIn K (.ref f3) = true)
    (a4 : PySem.W.nsIn K mainGlobals "is_machine" = some (some (.ref f4)))
    (l4 : K.lookup f4 = some ⟨oc4, od4, .func (PySem.W.fnOf "is_machine" "is_machine" (defArgs st4) (defBody st4) (defScope st4) .none kV4 dc4 pm4 an4 cd4 ct4), sl4⟩)
    (cc4 : PySem.W.codeIn K cd4 "is_machine" = true)
    (k4 : PySem.W.keepIn K (.ref f4) = true)
    (a5 : PySem.W.nsIn K mainGlobals "is_table_row" = some (some (.ref f5)))
    (l5 : K.lookup f5 = some ⟨oc5, od5, .func (PySem.W.fnOf "is_table_row" "is_table_row" (defArgs st5) (defBody st5) (defScope st5) .none kV5 dc5 pm5 an5 cd5 ct5), sl5⟩)
    (cc5 : PySem.W.codeIn K cd5 "is_table_row" = true)
    (k5 : PySem.W.keepIn K (.ref f5) = true)
    (a6 : PySem.W.nsIn K mainGlobals "is_table" = some (some (.ref f6)))
    (l6 : K.lookup f6 = some ⟨oc6, od6, .func (PySem.W.fnOf "is_table" "is_table" (defArgs st6) (defBody st6) (defScope st6) .none kV6 dc6 pm6 an6 cd6 ct6), sl6⟩)
    (cc6 : PySem.W.codeIn K cd6 "is_table" = true)
    (k6 : PySem.W.keepIn K (.ref f6) = true)
    (a7 : PySem.W.nsIn K mainGlobals "_law_pot" = some (some (.ref f7)))
    (l7 : K.lookup f7 = some ⟨oc7, od7, .func (PySem.W.fnOf "_law_pot" "_law_pot" (defArgs st7) (defBody st7) (defScope st7) .none kV7 dc7 pm7 an7 cd7 ct7), sl7⟩)
    (cc7 : PySem.W.codeIn K cd7 "_law_pot" = true)
    (k7 : PySem.W.keepIn K (.ref f7) = true)
    (a8 : PySem.W.nsIn K mainGlobals "_law_draw" = some (some (.ref f8)))
    (l8 : K.lookup f8 = some ⟨oc8, od8, .func (PySem.W.fnOf "_law_draw" "_law_draw" (defArgs st8) (defBody st8) (defScope st8) .none kV8 dc8 pm8 an8 cd8 ct8), sl8⟩)
    (cc8 : PySem.W.codeIn K cd8 "_law_draw" = true)
    (k8 : PySem.W.keepIn K (.ref f8) = true)
    (a9 : PySem.W.nsIn K mainGlobals "_law_pick" = some (some (.ref f9)))
    (l9 : K.lookup f9 = some ⟨oc9, od9, .func (PySem.W.fnOf "_law_pick" "_law_pick" (defArgs st9) (defBody st9) (defScope st9) .none kV9 dc9 pm9 an9 cd9 ct9), sl9⟩)
    (cc9 : PySem.W.codeIn K cd9 "_law_pick" = true)
    (k9 : PySem.W.keepIn K (.ref f9) = true)
    (a10 : PySem.W.nsIn K mainGlobals "_law_is_integer" = some (some (.ref f10)))
    (l10 : K.lookup f10 = some ⟨oc10, od10, .func (PySem.W.fnOf "_law_is_integer" "_law_is_integer" (defArgs st10) (defBody st10) (defScope st10) .none kV10 dc10 pm10 an10 cd10 ct10), sl10⟩)
    (cc10 : PySem.W.codeIn K cd10 "_law_is_integer" = true)
    (k10 : PySem.W.keepIn K (.ref f10) = true)
    (a11 : PySem.W.nsIn K mainGlobals "_law_is_within" = some (some (.ref f11)))
    (l11 : K.lookup f11 = some ⟨oc11, od11, .func (PySem.W.fnOf "_law_is_within" "_law_is_within" (defArgs st11) (defBody st11) (defScope st11) .none kV11 dc11 pm11 an11 cd11 ct11), sl11⟩)
    (cc11 : PySem.W.codeIn K cd11 "_law_is_within" = true)
    (k11 : PySem.W.keepIn K (.ref f11) = true)
    (a12 : PySem.W.nsIn K mainGlobals "_law_is_road" = some (some (.ref f12)))
    (l12 : K.lookup f12 = some ⟨oc12, od12, .func (PySem.W.fnOf "_law_is_road" "_law_is_road" (defArgs st12) (defBody st12) (defScope st12) .none kV12 dc12 pm12 an12 cd12 ct12), sl12⟩)
    (cc12 : PySem.W.codeIn K cd12 "_law_is_road" = true)
    (k12 : PySem.W.keepIn K (.ref f12) = true)
    (a13 : PySem.W.nsIn K mainGlobals "_law_machine_eye" = some (some (.ref f13)))
    (l13 : K.lookup f13 = some ⟨oc13, od13, .func (PySem.W.fnOf "_law_machine_eye" "_law_machine_eye" (defArgs st13) (defBody st13) (defScope st13) .none kV13 dc13 pm13 an13 cd13 ct13), sl13⟩)
    (cc13 : PySem.W.codeIn K cd13 "_law_machine_eye" = true)
    (k13 : PySem.W.keepIn K (.ref f13) = true)
    (a14 : PySem.W.nsIn K mainGlobals "_law_table_eye" = some (some (.ref f14)))
    (l14 : K.lookup f14 = some ⟨oc14, od14, .func (PySem.W.fnOf "_law_table_eye" "_law_table_eye" (defArgs st14) (defBody st14) (defScope st14) .none kV14 dc14 pm14 an14 cd14 ct14), sl14⟩)
    (cc14 : PySem.W.codeIn K cd14 "_law_table_eye" = true)
    (k14 : PySem.W.keepIn K (.ref f14) = true)
    (a15 : PySem.W.nsIn K mainGlobals "_law_machine" = some (some (.ref f15)))
    (l15 : K.lookup f15 = some ⟨oc15, od15, .func (PySem.W.fnOf "_law_machine" "_law_machine" (defArgs st15) (defBody st15) (defScope st15) .none kV15 dc15 pm15 an15 cd15 ct15), sl15⟩)
    (cc15 : PySem.W.codeIn K cd15 "_law_machine" = true)
    (k15 : PySem.W.keepIn K (.ref f15) = true)
    (a16 : PySem.W.nsIn K mainGlobals "_law_table" = some (some (.ref f16)))
    (l16 : K.lookup f16 = some ⟨oc16, od16, .func (PySem.W.fnOf "_law_table" "_law_table" (defArgs st16) (defBody st16) (defScope st16) .none kV16 dc16 pm16 an16 cd16 ct16), sl16⟩)
    (cc16 : PySem.W.codeIn K cd16 "_law_table" = true)
    (k16 : PySem.W.keepIn K (.ref f16) = true)
    (a17 : PySem.W.nsIn K mainGlobals "_law_odd" = some (some (.ref f17)))
    (l17 : K.lookup f17 = some ⟨oc17, od17, .func (PySem.W.fnOf "_law_odd" "_law_odd" (defArgs st17) (defBody st17) (defScope st17) .none kV17 dc17 pm17 an17 cd17 ct17), sl17⟩)
    (cc17 : PySem.W.codeIn K cd17 "_law_odd" = true)
    (k17 : PySem.W.keepIn K (.ref f17) = true)
    (a18 : PySem.W.nsIn K mainGlobals "_law_bent" = some (some (.ref f18)))
    (l18 : K.lookup f18 = some ⟨oc18, od18, .func (PySem.W.fnOf "_law_bent" "_law_bent" (defArgs st18) (defBody st18) (defScope st18) .none kV18 dc18 pm18 an18 cd18 ct18), sl18⟩)
    (cc18 : PySem.W.codeIn K cd18 "_law_bent" = true)
    (k18 : PySem.W.keepIn K (.ref f18) = true)
    (a19 : PySem.W.nsIn K mainGlobals "_law_right" = some (some (.ref f19)))
    (l19 : K.lookup f19 = some ⟨oc19, od19, .func (PySem.W.fnOf "_law_right" "_law_right" (defArgs st19) (defBody st19) (defScope st19) .none kV19 dc19 pm19 an19 cd19 ct19), sl19⟩)
    (cc19 : PySem.W.codeIn K cd19 "_law_right" = true)
    (k19 : PySem.W.keepIn K (.ref f19) = true)
    (a20 : PySem.W.nsIn K mainGlobals "law" = some (some (.ref f20)))
    (l20 : K.lookup f20 = some ⟨oc20, od20, .func (PySem.W.fnOf "law" "law" (defArgs st20) (defBody st20) (defScope st20) .none kV20 dc20 pm20 an20 cd20 ct20), sl20⟩)
    (cc20 : PySem.W.codeIn K cd20 "law" = true)
    (k20 : PySem.W.keepIn K (.ref f20) = true)
    (plain : ∀ ns : List Int, ns.length ≤ 63 → ∃ h', run (fnsOf its) sub WH DP 20 [.frz (ns.map C.int)] [] = .ok (.bl true) h') :
    ∃ fd : FuncData, (∀ (s : Shared) (v : Value), BindsTo s fd ⟨[v], []⟩ [("script", v)]) ∧ ∀ base : Heap, K.In base → base.Ns mainGlobals mg → FnOkG P w K mg base (DP + 2) fa fd ["script"] (sp0 K) := by
  have e := hfa.symm.trans (PySem.W.mg_of X G a20)
  cases e
  have F0 := fun_mk (st := st0) l0 cc0 k0
  have B0 := F0.binds (ps := P0) fun _ _ _ _ _ _ us hl => match us, hl with | [_], _ => rfl
  have F1 := fun_mk (st := st1) l1 cc1 k1
  have B1 := F1.binds (ps := P1) fun _ _ _ _ _ _ us hl => match us, hl with | [_], _ => rfl
  have F2 := fun_mk (st := st2) l2 cc2 k2
  have B2 := F2.binds (ps := P2) fun _ _ _ _ _ _ us hl => match us, hl with | [_, _], _ => rfl
  have F3 := fun_mk (st := st3) l3 cc3 k3
  have B3 := F3.binds (ps := P3) fun _ _ _ _ _ _ us hl => match us, hl with | [_, _], _ => rfl
  have F4 := fun_mk (st := st4) l4 cc4 k4
  have B4 := F4.binds (ps := P4) fun _ _ _ _ _ _ us hl => match us, hl with | [_], _ => rfl
  have F5 := fun_mk (st := st5) l5 cc5 k5
  have B5 := F5.binds (ps := P5) fun _ _ _ _ _ _ us hl => match us, hl with | [_, _], _ => rfl
  have F6 := fun_mk (st := st6) l6 cc6 k6
  have B6 := F6.binds (ps := P6) fun _ _ _ _ _ _ us hl => match us, hl with | [_], _ => rfl
  have F7 := fun_mk (st := st7) l7 cc7 k7
  have B7 := F7.binds (ps := P7) fun _ _ _ _ _ _ us hl => match us, hl with | [_, _], _ => rfl
  have F8 := fun_mk (st := st8) l8 cc8 k8
  have B8 := F8.binds (ps := P8) fun _ _ _ _ _ _ us hl => match us, hl with | [_, _], _ => rfl
  have F9 := fun_mk (st := st9) l9 cc9 k9
  have B9 := F9.binds (ps := P9) fun _ _ _ _ _ _ us hl => match us, hl with | [_, _], _ => rfl
  have F10 := fun_mk (st := st10) l10 cc10 k10
  have B10 := F10.binds (ps := P10) fun _ _ _ _ _ _ us hl => match us, hl with | [_], _ => rfl
  have F11 := fun_mk (st := st11) l11 cc11 k11
  have B11 := F11.binds (ps := P11) fun _ _ _ _ _ _ us hl => match us, hl with | [_, _, _], _ => rfl
  have F12 := fun_mk (st := st12) l12 cc12 k12
  have B12 := F12.binds (ps := P12) fun _ _ _ _ _ _ us hl => match us, hl with | [_, _], _ => rfl
  have F13 := fun_mk (st := st13) l13 cc13 k13
  have B13 := F13.binds (ps := P13) fun _ _ _ _ _ _ us hl => match us, hl with | [_], _ => rfl
  have F14 := fun_mk (st := st14) l14 cc14 k14
  have B14 := F14.binds (ps := P14) fun _ _ _ _ _ _ us hl => match us, hl with | [_], _ => rfl
  have F15 := fun_mk (st := st15) l15 cc15 k15
  have B15 := F15.binds (ps := P15) fun _ _ _ _ _ _ us hl => match us, hl with | [_], _ => rfl
  have F16 := fun_mk (st := st16) l16 cc16 k16
  have B16 := F16.binds (ps := P16) fun _ _ _ _ _ _ us hl => match us, hl with | [_], _ => rfl
  have F17 := fun_mk (st := st17) l17 cc17 k17
  have B17 := F17.binds (ps := P17) fun _ _ _ _ _ _ us hl => match us, hl with | [_], _ => rfl
  have F18 := fun_mk (st := st18) l18 cc18 k18
  have B18 := F18.binds (ps := P18) fun _ _ _ _ _ _ us hl => match us, hl with | [_, _, _], _ => rfl
  have F19 := fun_mk (st := st19) l19 cc19 k19
  have B19 := F19.binds (ps := P19) fun _ _ _ _ _ _ us hl => match us, hl with | [_], _ => rfl
  have F20 := fun_mk (st := st20) l20 cc20 k20
  have B20 := F20.binds (ps := P20) fun _ _ _ _ _ _ us hl => match us, hl with | [_], _ => rfl
  let tb : List (Addr × List Str) := []
  let et : ETab := fun k => tb[k]?
  have ec : ∀ (kk : Nat) (A : Addr) (f : List Str), et kk = some (A, f) → False := by
    intro kk A f h
    match kk, h with
    | n + 0, h => cases h
  have land : ∀ base : Heap, K.In base → base.Ns mainGlobals mg → Land its c0 et sub P w K mg base := fun base Y GB => by
    refine ⟨rfl, all_ok, ?_, ?_, ?_, ?_, ?_, ?_, ?_⟩
    · intro i it hi
      match i, hi with
      | 0, hi =>
        cases hi
        refine ⟨_, _, PySem.W.mg_of X G a0, F0, B0, fun n ks perm hk => ?_⟩
        simp only [c0, List.mem_cons, List.not_mem_nil, or_false, Prod.mk.injEq] at hk
        rcases hk with ⟨e0, e1, e2, e3⟩ | ⟨e0, e1, e2, e3⟩
        · exact absurd e0 (by decide)
        · exact absurd e0 (by decide)
      | 1, hi =>
        cases hi
        refine ⟨_, _, PySem.W.mg_of X G a1, F1, B1, fun n ks perm hk => ?_⟩
        simp only [c0, List.mem_cons, List.not_mem_nil, or_false, Prod.mk.injEq] at hk
        rcases hk with ⟨e0, e1, e2, e3⟩ | ⟨e0, e1, e2, e3⟩
        · exact absurd e0 (by decide)
        · exact absurd e0 (by decide)
      | 2, hi =>
        cases hi
        refine ⟨_, _, PySem.W.mg_of X G a2, F2, B2, fun n ks perm hk => ?_⟩
        simp only [c0, List.mem_cons, List.not_mem_nil, or_false, Prod.mk.injEq] at hk
        rcases hk with ⟨e0, e1, e2, e3⟩ | ⟨e0, e1, e2, e3⟩
        · exact absurd e0 (by decide)
        · exact absurd e0 (by decide)
      | 3, hi =>
        cases hi
        refine ⟨_, _, PySem.W.mg_of X G a3, F3, B3, fun n ks perm hk => ?_⟩
        simp only [c0, List.mem_cons, List.not_mem_nil, or_false, Prod.mk.injEq] at hk
        rcases hk with ⟨e0, e1, e2, e3⟩ | ⟨e0, e1, e2, e3⟩
        · exact absurd e0 (by decide)
        · exact absurd e0 (by decide)
      | 4, hi =>
        cases hi
        refine ⟨_, _, PySem.W.mg_of X G a4, F4, B4, fun n ks perm hk => ?_⟩
        simp only [c0, List.mem_cons, List.not_mem_nil, or_false, Prod.mk.injEq] at hk
        rcases hk with ⟨e0, e1, e2, e3⟩ | ⟨e0, e1, e2, e3⟩
        · exact absurd e0 (by decide)
        · subst e1 e2 e3
          exact ⟨kb_mk (by decide) fun s us ws h1 h2 => match us, ws, h1, h2 with | [], [w0], _, _ => .of_eq rfl, by decide⟩
      | 5, hi =>
        cases hi
        refine ⟨_, _, PySem.W.mg_of X G a5, F5, B5, fun n ks perm hk => ?_⟩
        simp only [c0, List.mem_cons, List.not_mem_nil, or_false, Prod.mk.injEq] at hk
        rcases hk with ⟨e0, e1, e2, e3⟩ | ⟨e0, e1, e2, e3⟩
        · exact absurd e0 (by decide)
        · exact absurd e0 (by decide)
      | 6, hi =>
        cases hi
        refine ⟨_, _, PySem.W.mg_of X G a6, F6, B6, fun n ks perm hk => ?_⟩
        simp only [c0, List.mem_cons, List.not_mem_nil, or_false, Prod.mk.injEq] at hk
        rcases hk with ⟨e0, e1, e2, e3⟩ | ⟨e0, e1, e2, e3⟩
        · subst e1 e2 e3
          exact ⟨kb_mk (by decide) fun s us ws h1 h2 => match us, ws, h1, h2 with | [], [w0], _, _ => .of_eq rfl, by decide⟩
        · exact absurd e0 (by decide)
      | 7, hi =>
        cases hi
        refine ⟨_, _, PySem.W.mg_of X G a7, F7, B7, fun n ks perm hk => ?_⟩
        simp only [c0, List.mem_cons, List.not_mem_nil, or_false, Prod.mk.injEq] at hk
        rcases hk with ⟨e0, e1, e2, e3⟩ | ⟨e0, e1, e2, e3⟩
        · exact absurd e0 (by decide)
        · exact absurd e0 (by decide)
      | 8, hi =>
        cases hi
        refine ⟨_, _, PySem.W.mg_of X G a8, F8, B8, fun n ks perm hk => ?_⟩
        simp only [c0, List.mem_cons, List.not_mem_nil, or_false, Prod.mk.injEq] at hk
        rcases hk with ⟨e0, e1, e2, e3⟩ | ⟨e0, e1, e2, e3⟩
        · exact absurd e0 (by decide)
        · exact absurd e0 (by decide)
      | 9, hi =>
        cases hi
        refine ⟨_, _, PySem.W.mg_of X G a9, F9, B9, fun n ks perm hk => ?_⟩
        simp only [c0, List.mem_cons, List.not_mem_nil, or_false, Prod.mk.injEq] at hk
        rcases hk with ⟨e0, e1, e2, e3⟩ | ⟨e0, e1, e2, e3⟩
        · exact absurd e0 (by decide)
        · exact absurd e0 (by decide)
      | 10, hi =>
        cases hi
        refine ⟨_, _, PySem.W.mg_of X G a10, F10, B10, fun n ks perm hk => ?_⟩
        simp only [c0, List.mem_cons, List.not_mem_nil, or_false, Prod.mk.injEq] at hk
        rcases hk with ⟨e0, e1, e2, e3⟩ | ⟨e0, e1, e2, e3⟩
        · exact absurd e0 (by decide)
        · exact absurd e0 (by decide)
      | 11, hi =>
        cases hi
        refine ⟨_, _, PySem.W.mg_of X G a11, F11, B11, fun n ks perm hk => ?_⟩
        simp only [c0, List.mem_cons, List.not_mem_nil, or_false, Prod.mk.injEq] at hk
        rcases hk with ⟨e0, e1, e2, e3⟩ | ⟨e0, e1, e2, e3⟩
        · exact absurd e0 (by decide)
        · exact absurd e0 (by decide)
      | 12, hi =>
        cases hi
        refine ⟨_, _, PySem.W.mg_of X G a12, F12, B12, fun n ks perm hk => ?_⟩
        simp only [c0, List.mem_cons, List.not_mem_nil, or_false, Prod.mk.injEq] at hk
        rcases hk with ⟨e0, e1, e2, e3⟩ | ⟨e0, e1, e2, e3⟩
        · exact absurd e0 (by decide)
        · exact absurd e0 (by decide)
      | 13, hi =>
        cases hi
        refine ⟨_, _, PySem.W.mg_of X G a13, F13, B13, fun n ks perm hk => ?_⟩
        simp only [c0, List.mem_cons, List.not_mem_nil, or_false, Prod.mk.injEq] at hk
        rcases hk with ⟨e0, e1, e2, e3⟩ | ⟨e0, e1, e2, e3⟩
        · exact absurd e0 (by decide)
        · exact absurd e0 (by decide)
      | 14, hi =>
        cases hi
        refine ⟨_, _, PySem.W.mg_of X G a14, F14, B14, fun n ks perm hk => ?_⟩
        simp only [c0, List.mem_cons, List.not_mem_nil, or_false, Prod.mk.injEq] at hk
        rcases hk with ⟨e0, e1, e2, e3⟩ | ⟨e0, e1, e2, e3⟩
        · exact absurd e0 (by decide)
        · exact absurd e0 (by decide)
      | 15, hi =>
        cases hi
        refine ⟨_, _, PySem.W.mg_of X G a15, F15, B15, fun n ks perm hk => ?_⟩
        simp only [c0, List.mem_cons, List.not_mem_nil, or_false, Prod.mk.injEq] at hk
        rcases hk with ⟨e0, e1, e2, e3⟩ | ⟨e0, e1, e2, e3⟩
        · exact absurd e0 (by decide)
        · exact absurd e0 (by decide)
      | 16, hi =>
        cases hi
        refine ⟨_, _, PySem.W.mg_of X G a16, F16, B16, fun n ks perm hk => ?_⟩
        simp only [c0, List.mem_cons, List.not_mem_nil, or_false, Prod.mk.injEq] at hk
        rcases hk with ⟨e0, e1, e2, e3⟩ | ⟨e0, e1, e2, e3⟩
        · exact absurd e0 (by decide)
        · exact absurd e0 (by decide)
      | 17, hi =>
        cases hi
        refine ⟨_, _, PySem.W.mg_of X G a17, F17, B17, fun n ks perm hk => ?_⟩
        simp only [c0, List.mem_cons, List.not_mem_nil, or_false, Prod.mk.injEq] at hk
        rcases hk with ⟨e0, e1, e2, e3⟩ | ⟨e0, e1, e2, e3⟩
        · exact absurd e0 (by decide)
        · exact absurd e0 (by decide)
      | 18, hi =>
        cases hi
        refine ⟨_, _, PySem.W.mg_of X G a18, F18, B18, fun n ks perm hk => ?_⟩
        simp only [c0, List.mem_cons, List.not_mem_nil, or_false, Prod.mk.injEq] at hk
        rcases hk with ⟨e0, e1, e2, e3⟩ | ⟨e0, e1, e2, e3⟩
        · exact absurd e0 (by decide)
        · exact absurd e0 (by decide)
      | 19, hi =>
        cases hi
        refine ⟨_, _, PySem.W.mg_of X G a19, F19, B19, fun n ks perm hk => ?_⟩
        simp only [c0, List.mem_cons, List.not_mem_nil, or_false, Prod.mk.injEq] at hk
        rcases hk with ⟨e0, e1, e2, e3⟩ | ⟨e0, e1, e2, e3⟩
        · exact absurd e0 (by decide)
        · exact absurd e0 (by decide)
      | 20, hi =>
        cases hi
        refine ⟨_, _, PySem.W.mg_of X G a20, F20, B20, fun n ks perm hk => ?_⟩
        simp only [c0, List.mem_cons, List.not_mem_nil, or_false, Prod.mk.injEq] at hk
        rcases hk with ⟨e0, e1, e2, e3⟩ | ⟨e0, e1, e2, e3⟩
        · exact absurd e0 (by decide)
        · exact absurd e0 (by decide)
      | n + 21, hi => cases hi
    · intro x hx
      have hx : x ∈ c0.cf.bn := List.contains_iff_mem.mp hx
      simp only [c0, List.mem_cons, List.not_mem_nil, or_false] at hx
      rcases hx with rfl | rfl | rfl | rfl | rfl | rfl | rfl | rfl | rfl | rfl | rfl | rfl | rfl | rfl
      · exact PySem.W.mg_none_of X G z_abs
      · exact PySem.W.mg_none_of X G z_all
      · exact PySem.W.mg_none_of X G z_bool
      · exact PySem.W.mg_none_of X G z_divmod
      · exact PySem.W.mg_none_of X G z_int
      · exact PySem.W.mg_none_of X G z_isinstance
      · exact PySem.W.mg_none_of X G z_len
      · exact PySem.W.mg_none_of X G z_list
      · exact PySem.W.mg_none_of X G z_max
      · exact PySem.W.mg_none_of X G z_range
      · exact PySem.W.mg_none_of X G z_repr
      · exact PySem.W.mg_none_of X G z_sorted
      · exact PySem.W.mg_none_of X G z_str
      · exact PySem.W.mg_none_of X G z_tuple
    · intro hx; cases hx
    · intro x ks hx; cases hx
    · intro x c hx
      simp only [c0, List.mem_cons, List.not_mem_nil, or_false, Prod.mk.injEq] at hx
      rcases hx with ⟨rfl, rfl⟩ | ⟨rfl, rfl⟩ | ⟨rfl, rfl⟩ | ⟨rfl, rfl⟩ | ⟨rfl, rfl⟩
      · exact ⟨.int 10000000000000000000000000000000000000000000000000000000000000000000000000000000000000000000000000000000000000000000000000000000000000000000000000000000000000000000000000000000000000000000000000000000000000000000000000000000000000000000000000000000000000000000000000000000000000000000000000000000000000000000000000000000000000000000000000000000000000000000000000000000000000000000000000000000000000000, _, PySem.W.mg_of X G zc_TOO_OFTEN, ⟨_, rfl⟩, fun _ _ => rfl⟩
      · exact ⟨.int 400, _, PySem.W.mg_of X G zc_MOST_LENGTH, ⟨_, rfl⟩, fun _ _ => rfl⟩
      · exact ⟨.int 60, _, PySem.W.mg_of X G zc_MOST_ROADS, ⟨_, rfl⟩, fun _ _ => rfl⟩
      · exact ⟨.int 12, _, PySem.W.mg_of X G zc_MOST_PLACES, ⟨_, rfl⟩, fun _ _ => rfl⟩
      · exact ⟨.int 1000000, _, PySem.W.mg_of X G zc_MOST_TIES, ⟨_, rfl⟩, fun _ _ => rfl⟩
    · intro k hk
      refine ⟨?_, ?_, ?_, ?_, ?_⟩
      · intro kk A f h
        exact (ec kk A f h).elim
      · intro x kk b hx; cases hx
      · intro x ks hx; cases hx
      · intro kk A f x b hx h hs
        exact (ec kk A f h).elim
      · intro kk A f h
        exact (ec kk A f h).elim
    · intro x hx; cases hx
  exact ⟨PySem.W.fnOf "law" "law" (defArgs st20) (defBody st20) (defScope st20) .none kV20 dc20 pm20 an20 cd20 ct20, fun s v => .of_eq rfl, fun base Y GB => sp0_of (run_ok (land base Y GB) WH DP 20 _ rfl _ _ F20) plain⟩
end K39
set_option linter.all false
set_option autoImplicit false
set_option maxRecDepth 100000
set_option maxHeartbeats 16000000
namespace K39
open Sh PySem
abbrev G : Nat → Option Fn := fnsOf its
abbrev Rn (d f : Nat) (xs : List C) (h : Hc) : R C := run G sub WH d f xs h
theorem nr_ok : its.all (fun it => it.body.nr) = true := by decide +kernel
theorem G_nr : ∀ f fn, G f = some fn → fn.body.nr = true := fun f fn h => by
  unfold G fnsOf at h
  cases e : its[f]? with
  | none => rw [e] at h; cases h
  | some it =>
    rw [e] at h
    cases h
    exact List.all_eq_true.mp nr_ok it (List.mem_of_getElem? e)
theorem u0 (d : Nat) (h : Hc) (x0 : C) : Rn (d + 1) 0 [x0] h = fin h (Ss.ev (Rn d) sub WH b0 none [some x0] h) := rfl
theorem u1 (d : Nat) (h : Hc) (x0 : C) : Rn (d + 1) 1 [x0] h = fin h (Ss.ev (Rn d) sub WH b1 none [some x0] h) := rfl
theorem u2 (d : Nat) (h : Hc) (x0 x1 : C) : Rn (d + 1) 2 [x0, x1] h = fin h (Ss.ev (Rn d) sub WH b2 none [some x0, some x1, none, none, none, none] h) := rfl
theorem u3 (d : Nat) (h : Hc) (x0 x1 : C) : Rn (d + 1) 3 [x0, x1] h = fin h (Ss.ev (Rn d) sub WH b3 none [some x0, some x1, none, none] h) := rfl
theorem u4 (d : Nat) (h : Hc) (x0 : C) : Rn (d + 1) 4 [x0] h = fin h (Ss.ev (Rn d) sub WH b4 none [some x0, none, none, none] h) := rfl
theorem u5 (d : Nat) (h : Hc) (x0 x1 : C) : Rn (d + 1) 5 [x0, x1] h = fin h (Ss.ev (Rn d) sub WH b5 none [some x0, some x1, none] h) := rfl
theorem u6 (d : Nat) (h : Hc) (x0 : C) : Rn (d + 1) 6 [x0] h = fin h (Ss.ev (Rn d) sub WH b6 none [some x0, none] h) := rfl
theorem u7 (d : Nat) (h : Hc) (x0 x1 : C) : Rn (d + 1) 7 [x0, x1] h = fin h (Ss.ev (Rn d) sub WH b7 none [some x0, some x1, none, none] h) := rfl
theorem u8 (d : Nat) (h : Hc) (x0 x1 : C) : Rn (d + 1) 8 [x0, x1] h = fin h (Ss.ev (Rn d) sub WH b8 none [some x0, some x1, none] h) := rfl
theorem u9 (d : Nat) (h : Hc) (x0 x1 : C) : Rn (d + 1) 9 [x0, x1] h = fin h (Ss.ev (Rn d) sub WH b9 none [some x0, some x1] h) := rfl
theorem u10 (d : Nat) (h : Hc) (x0 : C) : Rn (d + 1) 10 [x0] h = fin h (Ss.ev (Rn d) sub WH b10 none [some x0] h) := rfl
theorem u11 (d : Nat) (h : Hc) (x0 x1 x2 : C) : Rn (d + 1) 11 [x0, x1, x2] h = fin h (Ss.ev (Rn d) sub WH b11 none [some x0, some x1, some x2] h) := rfl
theorem u12 (d : Nat) (h : Hc) (x0 x1 : C) : Rn (d + 1) 12 [x0, x1] h = fin h (Ss.ev (Rn d) sub WH b12 none [some x0, some x1, none, none] h) := rfl
theorem u13 (d : Nat) (h : Hc) (x0 : C) : Rn (d + 1) 13 [x0] h = fin h (Ss.ev (Rn d) sub WH b13 none [some x0, none, none] h) := rfl
theorem u14 (d : Nat) (h : Hc) (x0 : C) : Rn (d + 1) 14 [x0] h = fin h (Ss.ev (Rn d) sub WH b14 none [some x0, none, none] h) := rfl
theorem u15 (d : Nat) (h : Hc) (x0 : C) : Rn (d + 1) 15 [x0] h = fin h (Ss.ev (Rn d) sub WH b15 none [some x0, none, none, none, none] h) := rfl
theorem u16 (d : Nat) (h : Hc) (x0 : C) : Rn (d + 1) 16 [x0] h = fin h (Ss.ev (Rn d) sub WH b16 none [some x0, none, none, none, none, none] h) := rfl
theorem u17 (d : Nat) (h : Hc) (x0 : C) : Rn (d + 1) 17 [x0] h = fin h (Ss.ev (Rn d) sub WH b17 none [some x0, none] h) := rfl
theorem u18 (d : Nat) (h : Hc) (x0 x1 x2 : C) : Rn (d + 1) 18 [x0, x1, x2] h = fin h (Ss.ev (Rn d) sub WH b18 none [some x0, some x1, some x2, none, none] h) := rfl
theorem u19 (d : Nat) (h : Hc) (x0 : C) : Rn (d + 1) 19 [x0] h = fin h (Ss.ev (Rn d) sub WH b19 none [some x0, none, none, none, none, none, none, none, none, none, none] h) := rfl
theorem u20 (d : Nat) (h : Hc) (x0 : C) : Rn (d + 1) 20 [x0] h = fin h (Ss.ev (Rn d) sub WH b20 none [some x0] h) := rfl

/-! ### a value's shape -/
def SS : List Str := ["machine", ""]
theorem so_ok : (SS.all fun z => PyData.strOk z) = true := by decide +kernel
mutual
def Ok : C → Bool
  | .non => true
  | .bl _ => true
  | .int _ => true
  | .ref _ => true
  | .str z => SS.contains z
  | .tup cs => decide (cs.length ≤ 1000) && Oks cs
  | .frz _ => false
  | .rep _ => false
  | .dref _ => false
def Oks : List C → Bool
  | [] => true
  | c :: cs => Ok c && Oks cs
end
variable {h : Hc}
theorem tr_b (b : Bool) (h : Hc) : truth (.bl b) h = .ok b h := rfl
theorem len_t (h : Hc) (cs : List C) : bi .len [.tup cs] h = .ok (.int cs.length) h := rfl
theorem it0 (h : Hc) (a : C) (r : List C) : item (.tup (a :: r)) (.int 0) h = .ok a h := item_of (xs := a :: r) (j := 0) rfl (by unfold ixC; simp) rfl
theorem it1 (h : Hc) (a b : C) (r : List C) : item (.tup (a :: b :: r)) (.int 1) h = .ok b h := item_of (xs := a :: b :: r) (j := 1) rfl (by unfold ixC; simp; omega) rfl
theorem it2 (h : Hc) (a b c : C) (r : List C) : item (.tup (a :: b :: c :: r)) (.int 2) h = .ok c h := item_of (xs := a :: b :: c :: r) (j := 2) rfl (by unfold ixC; simp; omega) rfl
theorem it3 (h : Hc) (a b c d : C) (r : List C) : item (.tup (a :: b :: c :: d :: r)) (.int 3) h = .ok d h := item_of (xs := a :: b :: c :: d :: r) (j := 3) rfl (by unfold ixC; simp; omega) rfl
theorem le_i (h : Hc) (i j : Int) : cmpop .le (.int i) (.int j) h = .ok (.bl (decide (i ≤ j))) h := rfl
theorem lt_i' (h : Hc) (i j : Int) : cmpop .lt (.int i) (.int j) h = .ok (.bl (decide (i < j))) h := rfl
theorem gt_i' (h : Hc) (i j : Int) : cmpop .gt (.int i) (.int j) h = .ok (.bl (decide (j < i))) h := rfl
theorem ge_i' (h : Hc) (i j : Int) : cmpop .ge (.int i) (.int j) h = .ok (.bl (decide (j ≤ i))) h := rfl
theorem ne_i' (h : Hc) (i j : Int) : cmpop .ne (.int i) (.int j) h = .ok (.bl (!(i == j))) h := rfl
theorem eq_i' (h : Hc) (i j : Int) : cmpop .eq (.int i) (.int j) h = .ok (.bl (i == j)) h := rfl
theorem isi_t (cs : List C) : isiC (.tup cs) .tuple = true := rfl
theorem isi_s (z : Str) : isiC (.str z) .str = true := rfl
theorem so_of {z : Str} (hz : SS.contains z = true) : PyData.strOk z = true := List.all_eq_true.mp so_ok z (List.contains_iff_mem.mp hz)
theorem ne_s (h : Hc) {w s : Str} (hw : SS.contains w = true) (hs : PyData.strOk s = true) : cmpop .ne (.str w) (.str s) h = .ok (.bl (!(w == s))) h := by
  have e : ceq h 40 (.str w) (.str s) = some (w == s) := by
    show eqFar h 40 (.str w) (.str s) = _
    unfold eqFar
    simp [toD, SeqAt.shaped, PyData.canLay0, PyData.depth, PyData.eqv, so_of hw, hs]
  show (match ceq h 40 (.str w) (.str s) with
    | some b => R.ok (C.bl (!b)) h
    | none => .bad) = _
  rw [e]
theorem oks_mem : ∀ {cs : List C}, Oks cs = true → ∀ c ∈ cs, Ok c = true
  | [], _, c, hc => by cases hc
  | x :: cs, h, c, hc => by
    obtain ⟨h1, h2⟩ := Bool.and_eq_true_iff.mp (h : (Ok x && Oks cs) = true)
    rcases List.mem_cons.mp hc with rfl | hc
    · exact h1
    · exact oks_mem h2 c hc
theorem ok_tup {cs : List C} (ho : Ok (.tup cs) = true) : cs.length ≤ 1000 ∧ Oks cs = true := by
  rw [Ok] at ho
  obtain ⟨h1, h2⟩ := and2 ho
  exact ⟨of_decide_eq_true h1, h2⟩
theorem rng_map : ∀ {α β : Type} (cs : List α) (f : α → β) (x : β), (List.range cs.length).map (fun i => ((cs[i]?).map f).getD x) = cs.map f := fun cs f x => by
  apply List.ext_getElem
  · simp
  · intro i h1 h2
    simp at h1
    simp [List.getElem?_eq_getElem h1]
theorem boolsC_map {α : Type} (f : α → Bool) : ∀ cs : List α, boolsC (cs.map fun c => .bl (f c)) = some (cs.map f)
  | [] => rfl
  | c :: cs => by
    show (boolsC (cs.map fun c => .bl (f c))).map (f c :: ·) = _
    rw [boolsC_map f cs]; rfl
theorem all_ref {α : Type} {n : Nat} {cs : List α} {f : α → Bool} (e : h[n]? = some (cs.map fun c => .bl (f c))) : bi .all [.ref n] h = .ok (.bl (cs.all f)) h := by
  show (match (h[n]?).bind boolsC with
      | some bs => R.ok (C.bl (bs.all id)) h
      | none => .bad) = _
  rw [e]
  show (match boolsC (cs.map fun c => .bl (f c)) with
      | some bs => R.ok (C.bl (bs.all id)) h
      | none => .bad) = _
  rw [boolsC_map]
  show R.ok (C.bl ((cs.map f).all id)) h = _
  rw [List.all_map]
  rfl
theorem tidy_b {h : Hc} (cl : ClH h) (b : Bool) (x : Hc) : tidy h.length (.bl b) (h ++ x) = .ok (.bl b) h := tidy_cl cl _ x rfl
/-- a walk over a tuple that asks for each item -/
theorem comp_tre {rest : List C} {g : C → Sl → Hc → R Sl} {t : Sl → Hc → R Bool} {e : Sl → Hc → R C} {sl : Sl} {f : C → Bool} (hl : rest.length ≤ 1000)
    (st : ∀ c ∈ rest, ∃ sl1, g c sl h = .ok sl1 h ∧ t sl1 h = .ok true h ∧ e sl1 h = .ok (.bl (f c)) h) :
    compF (.tre rest) g t e WH 0 sl [] h = .ok (rest.map fun c => .bl (f c)) h := by
  have q := compF_map (it := .tre rest) (n := rest.length) (el := fun i => rest.getD i .non) (ev := fun i => ((rest[i]?).map fun c => C.bl (f c)).getD .non) (g := g) (t := t) (e := e) (sl := sl) (h := h) (by omega)
    (fun i hi => by
      show some rest[i]? = _
      by_cases z : i < rest.length
      · rw [if_pos z, List.getElem?_eq_getElem z, List.getD_eq_getElem?_getD, List.getElem?_eq_getElem z]; rfl
      · rw [if_neg z, List.getElem?_eq_none (by omega)])
    (fun i hi => by
      obtain ⟨sl1, s1, s2, s3⟩ := st (rest[i]) (List.getElem_mem hi)
      have e0 : rest.getD i .non = rest[i] := by rw [List.getD_eq_getElem?_getD, List.getElem?_eq_getElem hi]; rfl
      refine ⟨sl1, by rw [e0]; exact s1, s2, ?_⟩
      rw [List.getElem?_eq_getElem hi]
      exact s3)
    WH (by unfold WH; exact Nat.lt_of_le_of_lt hl (by decide))
  rw [rng_map] at q
  exact q
end K39
set_option linter.all false
set_option autoImplicit false
set_option maxRecDepth 100000
set_option maxHeartbeats 16000000
namespace K39
open Sh PySem
variable {h : Hc}
def TOO : Int := 10000000000000000000000000000000000000000000000000000000000000000000000000000000000000000000000000000000000000000000000000000000000000000000000000000000000000000000000000000000000000000000000000000000000000000000000000000000000000000000000000000000000000000000000000000000000000000000000000000000000000000000000000000000000000000000000000000000000000000000000000000000000000000000000000000000000000000
def inI (lo hi : Int) : C → Bool
  | .int i => decide (lo ≤ i) && decide (i ≤ hi)
  | _ => false
def intB : C → Bool
  | .int _ => true
  | _ => false
def cntB : C → Bool
  | .int i => decide (0 ≤ i)
  | _ => false
theorem r0 (d : Nat) (h : Hc) (x : C) : Rn (d + 1) 0 [x] h = .ok (.bl (intB x)) h := by
  rw [u0]
  cases x <;> simp [b0, Ss.ev, S.ev, Hs.ev, E.ev, Es.ev, T.ev, Pt.put, Pts.put, Pts.len, Es.len, Oe.ev, It.ev, bind_ok, bind_err, bind_bad, th_ok, th_err, th_bad, nxth, retth, errth, badth, noerr_ok, fin_nx, fin_ret, fin_err, tidy_same, tidyX_same, List.getElem?_cons_zero, List.getElem?_cons_succ, List.set_cons_zero, List.set_cons_succ, isiC, isiT, tyC, intB]
theorem r10 (d : Nat) (h : Hc) (x : C) : Rn (d + 1) 10 [x] h = .ok (.bl (intB x)) h := by
  rw [u10]
  cases x <;> simp [b10, Ss.ev, S.ev, Hs.ev, E.ev, Es.ev, T.ev, Pt.put, Pts.put, Pts.len, Es.len, Oe.ev, It.ev, bind_ok, bind_err, bind_bad, th_ok, th_err, th_bad, nxth, retth, errth, badth, noerr_ok, fin_nx, fin_ret, fin_err, tidy_same, tidyX_same, List.getElem?_cons_zero, List.getElem?_cons_succ, List.set_cons_zero, List.set_cons_succ, isiC, isiT, tyC, intB]
theorem r1 (d : Nat) (h : Hc) (x : C) : Rn (d + 2) 1 [x] h = .ok (.bl (cntB x)) h := by
  rw [u1]
  cases x <;> simp [b1, Ss.ev, S.ev, Hs.ev, E.ev, Es.ev, T.ev, Pt.put, Pts.put, Pts.len, Es.len, Oe.ev, It.ev, bind_ok, bind_err, bind_bad, th_ok, th_err, th_bad, nxth, retth, errth, badth, noerr_ok, fin_nx, fin_ret, fin_err, tidy_same, tidyX_same, List.getElem?_cons_zero, List.getElem?_cons_succ, List.set_cons_zero, List.set_cons_succ, r0, intB, cntB, ge_i']
theorem r11 (d : Nat) (h : Hc) (x : C) (lo hi : Int) : Rn (d + 2) 11 [x, .int lo, .int hi] h = .ok (.bl (inI lo hi x)) h := by
  rw [u11]
  cases x with
  | int i =>
    by_cases z : lo ≤ i <;> simp [b11, Ss.ev, S.ev, Hs.ev, E.ev, Es.ev, T.ev, Pt.put, Pts.put, Pts.len, Es.len, Oe.ev, It.ev, bind_ok, bind_err, bind_bad, th_ok, th_err, th_bad, nxth, retth, errth, badth, noerr_ok, fin_nx, fin_ret, fin_err, tidy_same, tidyX_same, List.getElem?_cons_zero, List.getElem?_cons_succ, List.set_cons_zero, List.set_cons_succ, r10, intB, inI, ge_i', le_i, z]
  | _ => simp [b11, Ss.ev, S.ev, Hs.ev, E.ev, Es.ev, T.ev, Pt.put, Pts.put, Pts.len, Es.len, Oe.ev, It.ev, bind_ok, bind_err, bind_bad, th_ok, th_err, th_bad, nxth, retth, errth, badth, noerr_ok, fin_nx, fin_ret, fin_err, tidy_same, tidyX_same, List.getElem?_cons_zero, List.getElem?_cons_succ, List.set_cons_zero, List.set_cons_succ, r10, intB, inI]

def H2 (t : Int) : Ss := (.cons (.ifs (.or (.not (.tr (.isi (.var 0) .tuple))) (.cmp .ne (.bi .len (.cons (.var 0) .nil)) (.con (.int 4)))) (.cons (.ret (.con (.bl false))) .nil) .nil) (.cons (.asg (.tup (.cons (.v 2) (.cons (.v 3) (.cons (.v 4) (.cons (.v 5) .nil))))) (.var 0)) (.cons (.ifs (.or (.not (.tr (.call 1 (.cons (.var 2) .nil)))) (.or (.cmp .ge (.var 2) (.var 1)) (.or (.not (.tr (.call 1 (.cons (.var 3) .nil)))) (.cmp .ge (.var 3) (.var 1))))) (.cons (.ret (.con (.bl false))) .nil) .nil) (.cons (.ifs (.or (.not (.tr (.call 0 (.cons (.var 4) .nil)))) (.not (.chn .le .le (.con (.int 1)) (.var 4) (.glob "MOST_LENGTH" (.int 400))))) (.cons (.ret (.con (.bl false))) .nil) .nil) (.cons (.ret (.andv (.call 0 (.cons (.var 5) .nil)) (.chain .le .lt (.con (.int 1)) (.var 5) (.glob "TOO_OFTEN" (.int t))))) .nil)))))
theorem b2_is : b2 = H2 TOO := rfl
theorem intB_not {x : C} (hx : intB x = false) : cntB x = false ∧ ∀ lo hi, inI lo hi x = false := by cases x <;> first | (cases hx; done) | exact ⟨rfl, fun _ _ => rfl⟩
theorem intB_or (x : C) : (∃ i, x = .int i) ∨ intB x = false := by cases x <;> first | exact .inl ⟨_, rfl⟩ | exact .inr rfl
def roadT (P t : Int) : C → Bool
  | .tup [a, b, l, m] => inI 0 (P - 1) a && inI 0 (P - 1) b && (inI 1 400 l && inI 1 (t - 1) m)
  | _ => false
def roadB (P : Int) (x : C) : Bool := roadT P TOO x
theorem ln4 (a b l m : C) : (([a, b, l, m] : List C).length : Int) = 4 := rfl
theorem not4 (P t : Int) {cs : List C} (hl : cs.length ≠ 4) : roadT P t (.tup cs) = false := by
  match cs, hl with
  | [], _ => rfl
  | [_], _ => rfl
  | [_, _], _ => rfl
  | [_, _, _], _ => rfl
  | [_, _, _, _], hl => exact absurd rfl hl
  | _ :: _ :: _ :: _ :: _ :: _, _ => rfl
theorem tup4 {cs : List C} (hl : cs.length = 4) : ∃ a b l m, cs = [a, b, l, m] := by
  match cs, hl with
  | [a, b, l, m], _ => exact ⟨a, b, l, m, rfl⟩
theorem r2 (d : Nat) (h : Hc) (x : C) (P : Int) : Rn (d + 3) 2 [x, .int P] h = .ok (.bl (roadB P x)) h := by
  rw [u2, b2_is]
  unfold roadB
  generalize TOO = t
  cases x with
  | tup cs =>
    by_cases hl : cs.length = 4
    · obtain ⟨a, b, l, m, rfl⟩ := tup4 hl
      rcases intB_or a with ⟨i, rfl⟩ | ha
      rotate_left
      · obtain ⟨l1, l2⟩ := intB_not ha
        simp [H2, Ss.ev, S.ev, Hs.ev, E.ev, Es.ev, T.ev, Pt.put, Pts.put, Pts.len, Es.len, Oe.ev, It.ev, bind_ok, bind_err, bind_bad, th_ok, th_err, th_bad, nxth, retth, errth, badth, noerr_ok, fin_nx, fin_ret, fin_err, tidy_same, tidyX_same, List.getElem?_cons_zero, List.getElem?_cons_succ, List.set_cons_zero, List.set_cons_succ, isi_t, tr_b, len_t, ln4, ne_i', r1, r0, ge_i', le_i, lt_i', roadT, l1, l2]
      by_cases z1 : 0 ≤ i
      rotate_left
      · simp [H2, Ss.ev, S.ev, Hs.ev, E.ev, Es.ev, T.ev, Pt.put, Pts.put, Pts.len, Es.len, Oe.ev, It.ev, bind_ok, bind_err, bind_bad, th_ok, th_err, th_bad, nxth, retth, errth, badth, noerr_ok, fin_nx, fin_ret, fin_err, tidy_same, tidyX_same, List.getElem?_cons_zero, List.getElem?_cons_succ, List.set_cons_zero, List.set_cons_succ, isi_t, tr_b, len_t, ln4, ne_i', r1, r0, cntB, intB, ge_i', le_i, lt_i', roadT, inI, z1]
      by_cases z2 : P ≤ i
      · simp [H2, Ss.ev, S.ev, Hs.ev, E.ev, Es.ev, T.ev, Pt.put, Pts.put, Pts.len, Es.len, Oe.ev, It.ev, bind_ok, bind_err, bind_bad, th_ok, th_err, th_bad, nxth, retth, errth, badth, noerr_ok, fin_nx, fin_ret, fin_err, tidy_same, tidyX_same, List.getElem?_cons_zero, List.getElem?_cons_succ, List.set_cons_zero, List.set_cons_succ, isi_t, tr_b, len_t, ln4, ne_i', r1, r0, cntB, intB, ge_i', le_i, lt_i', roadT, inI, z1, z2]; omega
      rcases intB_or b with ⟨j, rfl⟩ | hb
      rotate_left
      · obtain ⟨l1, l2⟩ := intB_not hb
        simp [H2, Ss.ev, S.ev, Hs.ev, E.ev, Es.ev, T.ev, Pt.put, Pts.put, Pts.len, Es.len, Oe.ev, It.ev, bind_ok, bind_err, bind_bad, th_ok, th_err, th_bad, nxth, retth, errth, badth, noerr_ok, fin_nx, fin_ret, fin_err, tidy_same, tidyX_same, List.getElem?_cons_zero, List.getElem?_cons_succ, List.set_cons_zero, List.set_cons_succ, isi_t, tr_b, len_t, ln4, ne_i', r1, r0, ge_i', le_i, lt_i', roadT, show cntB (.int i) = decide (0 ≤ i) from rfl, z1, z2, l1, l2]
      by_cases z3 : 0 ≤ j
      rotate_left
      · simp [H2, Ss.ev, S.ev, Hs.ev, E.ev, Es.ev, T.ev, Pt.put, Pts.put, Pts.len, Es.len, Oe.ev, It.ev, bind_ok, bind_err, bind_bad, th_ok, th_err, th_bad, nxth, retth, errth, badth, noerr_ok, fin_nx, fin_ret, fin_err, tidy_same, tidyX_same, List.getElem?_cons_zero, List.getElem?_cons_succ, List.set_cons_zero, List.set_cons_succ, isi_t, tr_b, len_t, ln4, ne_i', r1, r0, cntB, intB, ge_i', le_i, lt_i', roadT, inI, z1, z2, z3]
      by_cases z4 : P ≤ j
      · simp [H2, Ss.ev, S.ev, Hs.ev, E.ev, Es.ev, T.ev, Pt.put, Pts.put, Pts.len, Es.len, Oe.ev, It.ev, bind_ok, bind_err, bind_bad, th_ok, th_err, th_bad, nxth, retth, errth, badth, noerr_ok, fin_nx, fin_ret, fin_err, tidy_same, tidyX_same, List.getElem?_cons_zero, List.getElem?_cons_succ, List.set_cons_zero, List.set_cons_succ, isi_t, tr_b, len_t, ln4, ne_i', r1, r0, cntB, intB, ge_i', le_i, lt_i', roadT, inI, z1, z2, z3, z4]; omega
      rcases intB_or l with ⟨u, rfl⟩ | hl'
      rotate_left
      · obtain ⟨l1, l2⟩ := intB_not hl'
        simp [H2, Ss.ev, S.ev, Hs.ev, E.ev, Es.ev, T.ev, Pt.put, Pts.put, Pts.len, Es.len, Oe.ev, It.ev, bind_ok, bind_err, bind_bad, th_ok, th_err, th_bad, nxth, retth, errth, badth, noerr_ok, fin_nx, fin_ret, fin_err, tidy_same, tidyX_same, List.getElem?_cons_zero, List.getElem?_cons_succ, List.set_cons_zero, List.set_cons_succ, isi_t, tr_b, len_t, ln4, ne_i', r1, r0, ge_i', le_i, lt_i', roadT, show cntB (.int i) = decide (0 ≤ i) from rfl, show cntB (.int j) = decide (0 ≤ j) from rfl, z1, z2, z3, z4, hl', l1, l2]
      by_cases z5 : 1 ≤ u
      rotate_left
      · simp [H2, Ss.ev, S.ev, Hs.ev, E.ev, Es.ev, T.ev, Pt.put, Pts.put, Pts.len, Es.len, Oe.ev, It.ev, bind_ok, bind_err, bind_bad, th_ok, th_err, th_bad, nxth, retth, errth, badth, noerr_ok, fin_nx, fin_ret, fin_err, tidy_same, tidyX_same, List.getElem?_cons_zero, List.getElem?_cons_succ, List.set_cons_zero, List.set_cons_succ, isi_t, tr_b, len_t, ln4, ne_i', r1, r0, cntB, intB, ge_i', le_i, lt_i', roadT, inI, z1, z2, z3, z4, z5]
      by_cases z6 : u ≤ 400
      rotate_left
      · simp [H2, Ss.ev, S.ev, Hs.ev, E.ev, Es.ev, T.ev, Pt.put, Pts.put, Pts.len, Es.len, Oe.ev, It.ev, bind_ok, bind_err, bind_bad, th_ok, th_err, th_bad, nxth, retth, errth, badth, noerr_ok, fin_nx, fin_ret, fin_err, tidy_same, tidyX_same, List.getElem?_cons_zero, List.getElem?_cons_succ, List.set_cons_zero, List.set_cons_succ, isi_t, tr_b, len_t, ln4, ne_i', r1, r0, cntB, intB, ge_i', le_i, lt_i', roadT, inI, z1, z2, z3, z4, z5, z6]
      rcases intB_or m with ⟨v, rfl⟩ | hm
      rotate_left
      · obtain ⟨m1, m2⟩ := intB_not hm
        simp [H2, Ss.ev, S.ev, Hs.ev, E.ev, Es.ev, T.ev, Pt.put, Pts.put, Pts.len, Es.len, Oe.ev, It.ev, bind_ok, bind_err, bind_bad, th_ok, th_err, th_bad, nxth, retth, errth, badth, noerr_ok, fin_nx, fin_ret, fin_err, tidy_same, tidyX_same, List.getElem?_cons_zero, List.getElem?_cons_succ, List.set_cons_zero, List.set_cons_succ, isi_t, tr_b, len_t, ln4, ne_i', r1, r0, ge_i', le_i, lt_i', roadT, show cntB (.int i) = decide (0 ≤ i) from rfl, show cntB (.int j) = decide (0 ≤ j) from rfl, show intB (.int u) = true from rfl, z1, z2, z3, z4, z5, z6, hm, m1, m2]
      by_cases z7 : 1 ≤ v
      · simp [H2, Ss.ev, S.ev, Hs.ev, E.ev, Es.ev, T.ev, Pt.put, Pts.put, Pts.len, Es.len, Oe.ev, It.ev, bind_ok, bind_err, bind_bad, th_ok, th_err, th_bad, nxth, retth, errth, badth, noerr_ok, fin_nx, fin_ret, fin_err, tidy_same, tidyX_same, List.getElem?_cons_zero, List.getElem?_cons_succ, List.set_cons_zero, List.set_cons_succ, isi_t, tr_b, len_t, ln4, ne_i', r1, r0, cntB, intB, ge_i', le_i, lt_i', roadT, inI, z1, z2, z3, z4, z5, z6, z7, show i ≤ P - 1 by omega, show j ≤ P - 1 by omega, show (v ≤ t - 1) = (v < t) from propext ⟨fun _ => by omega, fun _ => by omega⟩]
      · simp [H2, Ss.ev, S.ev, Hs.ev, E.ev, Es.ev, T.ev, Pt.put, Pts.put, Pts.len, Es.len, Oe.ev, It.ev, bind_ok, bind_err, bind_bad, th_ok, th_err, th_bad, nxth, retth, errth, badth, noerr_ok, fin_nx, fin_ret, fin_err, tidy_same, tidyX_same, List.getElem?_cons_zero, List.getElem?_cons_succ, List.set_cons_zero, List.set_cons_succ, isi_t, tr_b, len_t, ln4, ne_i', r1, r0, cntB, intB, ge_i', le_i, lt_i', roadT, inI, z1, z2, z3, z4, z5, z6, z7]
    · have hl2 : ((cs.length : Int) == 4) = false := by simp; omega
      simp [H2, Ss.ev, S.ev, Hs.ev, E.ev, Es.ev, T.ev, Pt.put, Pts.put, Pts.len, Es.len, Oe.ev, It.ev, bind_ok, bind_err, bind_bad, th_ok, th_err, th_bad, nxth, retth, errth, badth, noerr_ok, fin_nx, fin_ret, fin_err, tidy_same, tidyX_same, List.getElem?_cons_zero, List.getElem?_cons_succ, List.set_cons_zero, List.set_cons_succ, isi_t, tr_b, len_t, ne_i', hl2, not4 P t hl]
  | _ => simp [H2, Ss.ev, S.ev, Hs.ev, E.ev, Es.ev, T.ev, Pt.put, Pts.put, Pts.len, Es.len, Oe.ev, It.ev, bind_ok, bind_err, bind_bad, th_ok, th_err, th_bad, nxth, retth, errth, badth, noerr_ok, fin_nx, fin_ret, fin_err, tidy_same, tidyX_same, List.getElem?_cons_zero, List.getElem?_cons_succ, List.set_cons_zero, List.set_cons_succ, isiC, isiT, tyC, tr_b, roadT]
theorem too_ev (d : Nat) (sl : Sl) (h : Hc) : E.ev (Rn d) sub WH none (.bin .sub (.bin .pow (.bin .pow (.con (.int 10)) (.con (.int 50))) (.con (.int 8))) (.con (.int 1))) sl h = .ok (.int (TOO - 1)) h := rfl
def H12 (e : E) : Ss := (.cons (.ifs (.or (.not (.tr (.isi (.var 0) .tuple))) (.cmp .ne (.bi .len (.cons (.var 0) .nil)) (.con (.int 4)))) (.cons (.ret (.con (.bl false))) .nil) .nil) (.cons (.asg (.v 2) (.andv (.call 11 (.cons (.idx (.var 0) (.con (.int 0))) (.cons (.con (.int 0)) (.cons (.bin .sub (.var 1) (.con (.int 1))) .nil)))) (.call 11 (.cons (.idx (.var 0) (.con (.int 1))) (.cons (.con (.int 0)) (.cons (.bin .sub (.var 1) (.con (.int 1))) .nil)))))) (.cons (.asg (.v 3) (.andv (.call 11 (.cons (.idx (.var 0) (.con (.int 2))) (.cons (.con (.int 1)) (.cons (.con (.int 400)) .nil)))) (.call 11 (.cons (.idx (.var 0) (.con (.int 3))) (.cons (.con (.int 1)) (.cons e .nil)))))) (.cons (.ret (.andv (.var 2) (.var 3))) .nil))))
def TE12 : E := (.bin .sub (.bin .pow (.bin .pow (.con (.int 10)) (.con (.int 50))) (.con (.int 8))) (.con (.int 1)))
theorem b12_is : b12 = H12 TE12 := rfl
theorem sub_i (h : Hc) (i j : Int) : binop .sub (.int i) (.int j) h = .ok (.int (i - j)) h := rfl
theorem r12 (d : Nat) (h : Hc) (x : C) (P : Int) : Rn (d + 3) 12 [x, .int P] h = .ok (.bl (roadB P x)) h := by
  rw [u12, b12_is]
  unfold roadB
  have te : ∀ sl h, E.ev (Rn (d + 2)) sub WH none TE12 sl h = .ok (.int (TOO - 1)) h := too_ev (d + 2)
  generalize TE12 = te12 at te
  generalize TOO = t at te
  cases x with
  | tup cs =>
    by_cases hl : cs.length = 4
    · obtain ⟨a, b, l, m, rfl⟩ := tup4 hl
      cases q1 : inI 0 (P - 1) a <;> cases q2 : inI 0 (P - 1) b <;> cases q3 : inI 1 400 l <;> cases q4 : inI 1 (t - 1) m <;>
        simp [H12, Ss.ev, S.ev, Hs.ev, E.ev, Es.ev, T.ev, Pt.put, Pts.put, Pts.len, Es.len, Oe.ev, It.ev, bind_ok, bind_err, bind_bad, th_ok, th_err, th_bad, nxth, retth, errth, badth, noerr_ok, fin_nx, fin_ret, fin_err, tidy_same, tidyX_same, List.getElem?_cons_zero, List.getElem?_cons_succ, List.set_cons_zero, List.set_cons_succ, isi_t, tr_b, len_t, ln4, ne_i', it0, it1, it2, it3, r11, sub_i, te, q1, q2, q3, q4, roadT]
    · have hl2 : ((cs.length : Int) == 4) = false := by simp; omega
      simp [H12, Ss.ev, S.ev, Hs.ev, E.ev, Es.ev, T.ev, Pt.put, Pts.put, Pts.len, Es.len, Oe.ev, It.ev, bind_ok, bind_err, bind_bad, th_ok, th_err, th_bad, nxth, retth, errth, badth, noerr_ok, fin_nx, fin_ret, fin_err, tidy_same, tidyX_same, List.getElem?_cons_zero, List.getElem?_cons_succ, List.set_cons_zero, List.set_cons_succ, isi_t, tr_b, len_t, ne_i', hl2, not4 P t hl]
  | _ => simp [H12, Ss.ev, S.ev, Hs.ev, E.ev, Es.ev, T.ev, Pt.put, Pts.put, Pts.len, Es.len, Oe.ev, It.ev, bind_ok, bind_err, bind_bad, th_ok, th_err, th_bad, nxth, retth, errth, badth, noerr_ok, fin_nx, fin_ret, fin_err, tidy_same, tidyX_same, List.getElem?_cons_zero, List.getElem?_cons_succ, List.set_cons_zero, List.set_cons_succ, isiC, isiT, tyC, tr_b, roadT]
end K39
set_option linter.all false
set_option autoImplicit false
set_option maxRecDepth 100000
set_option maxHeartbeats 16000000
namespace K39
open Sh PySem
variable {h : Hc}
/-- the first three numbers of a road -/
def k3 : C → List Int
  | .tup [.int a, .int b, .int l, _] => [a, b, l]
  | _ => []
theorem road_is {P : Int} {c : C} (hr : roadB P c = true) : ∃ a b l m, c = .tup [.int a, .int b, .int l, .int m] ∧ 0 ≤ a ∧ a ≤ P - 1 ∧ 0 ≤ b ∧ b ≤ P - 1 ∧ 1 ≤ l ∧ l ≤ 400 := by
  unfold roadB at hr
  generalize TOO = t at hr
  cases c with
  | tup cs =>
    by_cases hl : cs.length = 4
    · obtain ⟨a, b, l, m, rfl⟩ := tup4 hl
      have hr' : (inI 0 (P - 1) a && inI 0 (P - 1) b && (inI 1 400 l && inI 1 (t - 1) m)) = true := hr
      obtain ⟨g1, g2⟩ := and2 hr'
      obtain ⟨g3, g4⟩ := and2 g1
      obtain ⟨g5, g6⟩ := and2 g2
      clear g1 g2 hr' hr
      cases a <;> try (cases g3; done)
      cases b <;> try (cases g4; done)
      cases l <;> try (cases g5; done)
      cases m <;> try (cases g6; done)
      obtain ⟨a1, a2⟩ := and2 g3
      obtain ⟨b1, b2⟩ := and2 g4
      obtain ⟨c1, c2⟩ := and2 g5
      exact ⟨_, _, _, _, rfl, of_decide_eq_true a1, of_decide_eq_true a2, of_decide_eq_true b1, of_decide_eq_true b2, of_decide_eq_true c1, of_decide_eq_true c2⟩
    · rw [not4 P t hl] at hr
      cases hr
  | _ => cases hr
theorem sl_road {P : Int} {c : C} (hr : roadB P c = true) (h : Hc) : slice c none (some 3) h = .ok (.tup ((k3 c).map C.int)) h := by
  obtain ⟨a, b, l, m, rfl, _⟩ := road_is hr
  rfl
theorem lt_t (xs ys : List Int) (h : Hc) : cmpop .lt (.tup (xs.map C.int)) (.tup (ys.map C.int)) h = .ok (.bl (ltI xs ys)) h := by
  show ordT _ _ _ _ = _
  unfold ordT
  rw [intsC_map, intsC_map]
theorem le_t (xs ys : List Int) (h : Hc) : cmpop .le (.tup (xs.map C.int)) (.tup (ys.map C.int)) h = .ok (.bl (!ltI ys xs)) h := by
  show ordT _ _ _ _ = _
  unfold ordT
  rw [intsC_map, intsC_map]
theorem it_n {cs : List C} {i : Nat} {j : Int} (hj : j = (i : Int)) (hi : i < cs.length) : item (.tup cs) (.int j) h = .ok (gC cs i) h := by
  subst hj
  exact item_of (xs := cs) rfl (by rw [ix_nat, if_pos hi]) (gC_of hi)
theorem it_rng2 {call : Nat → List C → Hc → R C} {sub : Nat → Str → Option Bool} {w : Nat} {cx : Option (Nat × List C)} {a b : E} {sl : Sl} {h h1 h2 : Hc} {n : Nat} (e1 : E.ev call sub w cx a sl h = .ok (.int 1) h1) (e2 : E.ev call sub w cx b sl h1 = .ok (.int (n : Int)) h2) (hn : n < 100000) : It.ev call sub w cx (.rng2 a b) sl h = .ok (.rng 1 (n - 1)) h2 := by
  unfold It.ev
  rw [e1, bind_ok, e2, bind_ok]
  dsimp only
  split
  · rw [show ((n : Int) - 1).toNat = n - 1 by omega]
  · omega
def ascB (cs : List C) : Bool := (List.range (cs.length - 1)).all fun i => ltI (k3 (gC cs i)) (k3 (gC cs (i + 1)))
def arB (P : Int) : C → Bool
  | .tup cs => decide (cs.length ≤ 60) && (cs.all (roadB P) && ascB cs)
  | _ => false
theorem g_mem {cs : List C} {i : Nat} (hi : i < cs.length) : gC cs i ∈ cs := by
  have := gC_of hi
  exact List.mem_of_getElem? this
def AL1 : E := .bi .all (.cons (.comp (.call 2 (.cons (.var 3) (.cons (.var 1) .nil))) (.v 3) (.seq (.var 0)) .yes) .nil)
def AL2 : E := .bi .all (.cons (.comp (.cmp .lt (.slc (.idx (.var 0) (.bin .sub (.var 2) (.con (.int 1)))) .none (.some (.con (.int 3)))) (.slc (.idx (.var 0) (.var 2)) .none (.some (.con (.int 3))))) (.v 2) (.rng2 (.con (.int 1)) (.bi .len (.cons (.var 0) .nil))) .yes) .nil)
def H3 (a1 a2 : E) : Ss := (.cons (.ifs (.or (.not (.tr (.isi (.var 0) .tuple))) (.cmp .gt (.bi .len (.cons (.var 0) .nil)) (.glob "MOST_ROADS" (.int 60)))) (.cons (.ret (.con (.bl false))) .nil) .nil) (.cons (.ifs (.not (.tr a1)) (.cons (.ret (.con (.bl false))) .nil) .nil) (.cons (.ret a2) .nil)))
theorem b3_is : b3 = H3 AL1 AL2 := rfl
theorem al1 (d : Nat) (h : Hc) {cs : List C} (hl : cs.length ≤ 60) (P : Int) : E.ev (Rn (d + 3)) sub WH none AL1 [some (.tup cs), some (.int P), none, none] h = .ok (.bl (cs.all (roadB P))) (h ++ [cs.map fun c => C.bl (roadB P c)]) := by
  have e1 := comp_tre (rest := cs) (f := roadB P) (h := h) (g := fun c sl h => Pt.put (Rn (d + 3)) sub WH none (.v 3) c sl h) (t := fun sl h => T.ev (Rn (d + 3)) sub WH none .yes sl h)
    (e := fun sl h => E.ev (Rn (d + 3)) sub WH none (.call 2 (.cons (.var 3) (.cons (.var 1) .nil))) sl h) (sl := [some (.tup cs), some (.int P), none, none]) (by omega)
    (fun c hc => ⟨[some (.tup cs), some (.int P), none, some c], rfl, rfl, by simp only [Ss.ev, S.ev, Hs.ev, E.ev, Es.ev, T.ev, Pt.put, Pts.put, Pts.len, Es.len, Oe.ev, It.ev, bind_ok, bind_err, bind_bad, th_ok, th_err, th_bad, nxth, retth, errth, badth, noerr_ok, fin_nx, fin_ret, fin_err, tidy_same, tidyX_same, List.getElem?_cons_zero, List.getElem?_cons_succ, List.set_cons_zero, List.set_cons_succ]; exact r2 d h c P⟩)
  have e2 := all_ref (h := h ++ [cs.map fun c => C.bl (roadB P c)]) (n := h.length) (cs := cs) (f := roadB P) (last_get _ _)
  simp only [Ss.ev, S.ev, Hs.ev, E.ev, Es.ev, T.ev, Pt.put, Pts.put, Pts.len, Es.len, Oe.ev, It.ev, bind_ok, bind_err, bind_bad, th_ok, th_err, th_bad, nxth, retth, errth, badth, noerr_ok, fin_nx, fin_ret, fin_err, tidy_same, tidyX_same, List.getElem?_cons_zero, List.getElem?_cons_succ, List.set_cons_zero, List.set_cons_succ] at e1
  simp only [AL1, Ss.ev, S.ev, Hs.ev, E.ev, Es.ev, T.ev, Pt.put, Pts.put, Pts.len, Es.len, Oe.ev, It.ev, bind_ok, bind_err, bind_bad, th_ok, th_err, th_bad, nxth, retth, errth, badth, noerr_ok, fin_nx, fin_ret, fin_err, tidy_same, tidyX_same, List.getElem?_cons_zero, List.getElem?_cons_succ, List.set_cons_zero, List.set_cons_succ, Pt.wipe, Pt.slots, wipeC, e1, e2]
theorem al2 (d : Nat) (h : Hc) {cs : List C} (hl : cs.length ≤ 60) (P : Int) (hr : cs.all (roadB P) = true) : E.ev (Rn (d + 3)) sub WH none AL2 [some (.tup cs), some (.int P), none, none] h = .ok (.bl (ascB cs)) (h ++ [(List.range (cs.length - 1)).map fun i => C.bl (ltI (k3 (gC cs i)) (k3 (gC cs (i + 1))))]) := by
  have hr' := List.all_eq_true.mp hr
  have e3 := compF_map (it := .rng 1 (cs.length - 1)) (n := cs.length - 1) (el := fun i => .int (1 + (i : Int))) (ev := fun i => .bl (ltI (k3 (gC cs i)) (k3 (gC cs (i + 1))))) (h := h)
    (g := fun c sl h => Pt.put (Rn (d + 3)) sub WH none (.v 2) c sl h) (t := fun sl h => T.ev (Rn (d + 3)) sub WH none .yes sl h)
    (e := fun sl h => E.ev (Rn (d + 3)) sub WH none (.cmp .lt (.slc (.idx (.var 0) (.bin .sub (.var 2) (.con (.int 1)))) .none (.some (.con (.int 3)))) (.slc (.idx (.var 0) (.var 2)) .none (.some (.con (.int 3))))) sl h)
    (sl := [some (.tup cs), some (.int P), none, none]) (by omega) (fun i hi => at_rng _ _ _ _)
    (fun i hi => by
      refine ⟨[some (.tup cs), some (.int P), some (.int (1 + (i : Int))), none], rfl, rfl, ?_⟩
      have q1 := it_n (h := h) (cs := cs) (i := i) (j := 1 + (i : Int) - 1) (by omega) (by omega)
      have q2 := it_n (h := h) (cs := cs) (i := i + 1) (j := 1 + (i : Int)) (by omega) (by omega)
      simp only [Ss.ev, S.ev, Hs.ev, E.ev, Es.ev, T.ev, Pt.put, Pts.put, Pts.len, Es.len, Oe.ev, It.ev, bind_ok, bind_err, bind_bad, th_ok, th_err, th_bad, nxth, retth, errth, badth, noerr_ok, fin_nx, fin_ret, fin_err, tidy_same, tidyX_same, List.getElem?_cons_zero, List.getElem?_cons_succ, List.set_cons_zero, List.set_cons_succ, sub_i, q1, q2, sl_road (hr' _ (g_mem (show i < cs.length by omega))), sl_road (hr' _ (g_mem (show i + 1 < cs.length by omega))), lt_t])
    WH (by unfold WH; exact Nat.lt_of_le_of_lt (show cs.length - 1 ≤ 60 by omega) (by decide))
  have e4 := all_ref (h := h ++ [(List.range (cs.length - 1)).map fun i => C.bl (ltI (k3 (gC cs i)) (k3 (gC cs (i + 1))))]) (n := h.length)
    (cs := List.range (cs.length - 1)) (f := fun i => ltI (k3 (gC cs i)) (k3 (gC cs (i + 1)))) (last_get _ _)
  have i2 : It.ev (Rn (d + 3)) sub WH none (.rng2 (.con (.int 1)) (.bi .len (.cons (.var 0) .nil))) [some (.tup cs), some (.int P), none, none] h = .ok (.rng 1 (cs.length - 1)) h := it_rng2 (n := cs.length) rfl rfl (by omega)
  unfold AL2
  unfold E.ev Es.ev E.ev Es.ev
  rw [i2, bind_ok]
  show ((((compF _ _ _ _ WH 0 [some (.tup cs), some (.int P), none, none] [] h).noerr.bind fun xs h2 => R.ok (C.ref h2.length) (h2 ++ [xs])).bind fun x h1 => R.ok [x] h1).bind fun xs h1 => bi .all xs h1) = _
  rw [e3]
  exact e4
section
variable {call : Nat → List C → Hc → R C} {sub : Nat → Str → Option Bool} {w : Nat} {a1 a2 : E} {cs : List C} {P : Int} {h h1 h2 : Hc} {b : Bool} {s3 s4 : Option C}
theorem h3_f (hl : cs.length ≤ 60) (q1 : E.ev call sub w none a1 [some (.tup cs), some (.int P), s3, s4] h = .ok (.bl false) h1) : Ss.ev call sub w (H3 a1 a2) none [some (.tup cs), some (.int P), s3, s4] h = .ret (.bl false) h1 := by
  have hl2 : decide ((60 : Int) < (cs.length : Int)) = false := by simp; omega
  simp [H3, Ss.ev, S.ev, Hs.ev, E.ev, Es.ev, T.ev, Pt.put, Pts.put, Pts.len, Es.len, Oe.ev, It.ev, bind_ok, bind_err, bind_bad, th_ok, th_err, th_bad, nxth, retth, errth, badth, noerr_ok, fin_nx, fin_ret, fin_err, tidy_same, tidyX_same, List.getElem?_cons_zero, List.getElem?_cons_succ, List.set_cons_zero, List.set_cons_succ, isi_t, tr_b, len_t, gt_i', hl2, q1]
theorem h3_t (hl : cs.length ≤ 60) (q1 : E.ev call sub w none a1 [some (.tup cs), some (.int P), s3, s4] h = .ok (.bl true) h1) (q2 : E.ev call sub w none a2 [some (.tup cs), some (.int P), s3, s4] h1 = .ok (.bl b) h2) : Ss.ev call sub w (H3 a1 a2) none [some (.tup cs), some (.int P), s3, s4] h = .ret (.bl b) h2 := by
  have hl2 : decide ((60 : Int) < (cs.length : Int)) = false := by simp; omega
  simp [H3, Ss.ev, S.ev, Hs.ev, E.ev, Es.ev, T.ev, Pt.put, Pts.put, Pts.len, Es.len, Oe.ev, It.ev, bind_ok, bind_err, bind_bad, th_ok, th_err, th_bad, nxth, retth, errth, badth, noerr_ok, fin_nx, fin_ret, fin_err, tidy_same, tidyX_same, List.getElem?_cons_zero, List.getElem?_cons_succ, List.set_cons_zero, List.set_cons_succ, isi_t, tr_b, len_t, gt_i', hl2, q1, q2]
theorem h3_l (hl : ¬ cs.length ≤ 60) : Ss.ev call sub w (H3 a1 a2) none [some (.tup cs), some (.int P), s3, s4] h = .ret (.bl false) h := by
  have hl2 : decide ((60 : Int) < (cs.length : Int)) = true := by simp; omega
  simp [H3, Ss.ev, S.ev, Hs.ev, E.ev, Es.ev, T.ev, Pt.put, Pts.put, Pts.len, Es.len, Oe.ev, It.ev, bind_ok, bind_err, bind_bad, th_ok, th_err, th_bad, nxth, retth, errth, badth, noerr_ok, fin_nx, fin_ret, fin_err, tidy_same, tidyX_same, List.getElem?_cons_zero, List.getElem?_cons_succ, List.set_cons_zero, List.set_cons_succ, isi_t, tr_b, len_t, gt_i', hl2]
theorem h3_n {x : C} (hx : isiC x .tuple = false) : Ss.ev call sub w (H3 a1 a2) none [some x, some (.int P), s3, s4] h = .ret (.bl false) h := by
  simp [H3, Ss.ev, S.ev, Hs.ev, E.ev, Es.ev, T.ev, Pt.put, Pts.put, Pts.len, Es.len, Oe.ev, It.ev, bind_ok, bind_err, bind_bad, th_ok, th_err, th_bad, nxth, retth, errth, badth, noerr_ok, fin_nx, fin_ret, fin_err, tidy_same, tidyX_same, List.getElem?_cons_zero, List.getElem?_cons_succ, List.set_cons_zero, List.set_cons_succ, hx, tr_b]
end
theorem r3 (d : Nat) (cl : ClH h) (x : C) (P : Int) : Rn (d + 4) 3 [x, .int P] h = .ok (.bl (arB P x)) h := by
  rw [u3, b3_is]
  cases x with
  | tup cs =>
    by_cases hl : cs.length ≤ 60
    · have q1 := al1 d h hl P
      have hA : arB P (.tup cs) = (cs.all (roadB P) && ascB cs) := by
        show (decide (cs.length ≤ 60) && (cs.all (roadB P) && ascB cs)) = _
        rw [decide_eq_true hl]
        rfl
      rw [hA]
      cases hr : cs.all (roadB P)
      · rw [hr] at q1
        rw [h3_f hl q1]
        exact tidy_b cl false _
      · have q2 := al2 d (h ++ [cs.map fun c => C.bl (roadB P c)]) hl P hr
        rw [hr] at q1
        rw [h3_t hl q1 q2, List.append_assoc]
        exact tidy_b cl _ _
    · rw [h3_l hl]
      have hA : arB P (.tup cs) = false := by
        show (decide (cs.length ≤ 60) && (cs.all (roadB P) && ascB cs)) = _
        rw [decide_eq_false hl]
        rfl
      rw [hA]
      exact tidy_same _ _
  | _ =>
    rw [h3_n rfl]
    exact tidy_same _ _
def machB : C → Bool
  | .tup [.str w, .int P, r] => (w == "machine") && (decide (1 ≤ P) && decide (P ≤ 12) && arB P r)
  | _ => false
theorem tup3 {cs : List C} (hl : cs.length = 3) : ∃ a b l, cs = [a, b, l] := by
  match cs, hl with
  | [a, b, l], _ => exact ⟨a, b, l, rfl⟩
theorem mach3 {cs : List C} (hl : cs.length ≠ 3) : machB (.tup cs) = false := by
  unfold machB
  split
  · rename_i e
    injection e with e
    subst e
    exact absurd rfl hl
  · rfl
def strB : C → Bool
  | .str _ => true
  | _ => false
theorem str_or (x : C) : (∃ z, x = .str z) ∨ strB x = false := by cases x <;> first | exact .inl ⟨_, rfl⟩ | exact .inr rfl
theorem isi_str {c : C} (hs : strB c = false) (ho : Ok c = true) : isiC c .str = false := by
  cases c <;> first | rfl | (cases hs; done) | (simp [Ok] at ho; done)
theorem mach_ns {a b r : C} (ha : strB a = false) : machB (.tup [a, b, r]) = false := by cases a <;> first | rfl | cases ha
theorem mach_ni {a b r : C} (hb : intB b = false) : machB (.tup [a, b, r]) = false := by cases a <;> cases b <;> first | rfl | cases hb
theorem so_m : PyData.strOk "machine" = true := by decide +kernel
theorem ln3 (a b l : C) : (([a, b, l] : List C).length : Int) = 3 := rfl
theorem r4 (d : Nat) (cl : ClH h) (x : C) (ho : Ok x = true) : Rn (d + 5) 4 [x] h = .ok (.bl (machB x)) h := by
  rw [u4]
  cases x with
  | tup cs =>
    by_cases hl : cs.length = 3
    · obtain ⟨a, b, r, rfl⟩ := tup3 hl
      have oa : Ok a = true := oks_mem (ok_tup ho).2 a (by simp)
      rcases str_or a with ⟨z, rfl⟩ | ha
      rotate_left
      · simp [b4, Ss.ev, S.ev, Hs.ev, E.ev, Es.ev, T.ev, Pt.put, Pts.put, Pts.len, Es.len, Oe.ev, It.ev, bind_ok, bind_err, bind_bad, th_ok, th_err, th_bad, nxth, retth, errth, badth, noerr_ok, fin_nx, fin_ret, fin_err, tidy_same, tidyX_same, List.getElem?_cons_zero, List.getElem?_cons_succ, List.set_cons_zero, List.set_cons_succ, isi_t, tr_b, len_t, ln3, ne_i', isi_str ha oa, mach_ns ha]
      have hz : SS.contains z = true := oa
      by_cases ez : z = "machine"
      rotate_left
      · have e := ne_s h hz so_m
        rw [show (z == ("machine" : Str)) = false from beq_eq_false_iff_ne.mpr ez] at e
        simp [b4, Ss.ev, S.ev, Hs.ev, E.ev, Es.ev, T.ev, Pt.put, Pts.put, Pts.len, Es.len, Oe.ev, It.ev, bind_ok, bind_err, bind_bad, th_ok, th_err, th_bad, nxth, retth, errth, badth, noerr_ok, fin_nx, fin_ret, fin_err, tidy_same, tidyX_same, List.getElem?_cons_zero, List.getElem?_cons_succ, List.set_cons_zero, List.set_cons_succ, isi_t, isi_s, tr_b, len_t, ln3, ne_i', e, show machB (.tup [.str z, b, r]) = false by cases b <;> simp [machB, ez]]
      subst ez
      have e := ne_s h hz so_m
      rcases intB_or b with ⟨P, rfl⟩ | hb
      rotate_left
      · simp [b4, Ss.ev, S.ev, Hs.ev, E.ev, Es.ev, T.ev, Pt.put, Pts.put, Pts.len, Es.len, Oe.ev, It.ev, bind_ok, bind_err, bind_bad, th_ok, th_err, th_bad, nxth, retth, errth, badth, noerr_ok, fin_nx, fin_ret, fin_err, tidy_same, tidyX_same, List.getElem?_cons_zero, List.getElem?_cons_succ, List.set_cons_zero, List.set_cons_succ, isi_t, isi_s, tr_b, len_t, ln3, ne_i', e, r0, hb, mach_ni hb]
      by_cases z1 : 1 ≤ P <;> by_cases z2 : P ≤ 12 <;> simp [b4, Ss.ev, S.ev, Hs.ev, E.ev, Es.ev, T.ev, Pt.put, Pts.put, Pts.len, Es.len, Oe.ev, It.ev, bind_ok, bind_err, bind_bad, th_ok, th_err, th_bad, nxth, retth, errth, badth, noerr_ok, fin_nx, fin_ret, fin_err, tidy_same, tidyX_same, List.getElem?_cons_zero, List.getElem?_cons_succ, List.set_cons_zero, List.set_cons_succ, isi_t, isi_s, tr_b, len_t, ln3, ne_i', e, r0, show intB (.int P) = true from rfl, le_i, z1, z2, r3 d cl, machB]
    · have hl2 : ((cs.length : Int) == 3) = false := by simp; omega
      simp [b4, Ss.ev, S.ev, Hs.ev, E.ev, Es.ev, T.ev, Pt.put, Pts.put, Pts.len, Es.len, Oe.ev, It.ev, bind_ok, bind_err, bind_bad, th_ok, th_err, th_bad, nxth, retth, errth, badth, noerr_ok, fin_nx, fin_ret, fin_err, tidy_same, tidyX_same, List.getElem?_cons_zero, List.getElem?_cons_succ, List.set_cons_zero, List.set_cons_succ, isi_t, tr_b, len_t, ne_i', hl2, mach3 hl]
  | _ => first | (simp [Ok] at ho; done) | simp [b4, Ss.ev, S.ev, Hs.ev, E.ev, Es.ev, T.ev, Pt.put, Pts.put, Pts.len, Es.len, Oe.ev, It.ev, bind_ok, bind_err, bind_bad, th_ok, th_err, th_bad, nxth, retth, errth, badth, noerr_ok, fin_nx, fin_ret, fin_err, tidy_same, tidyX_same, List.getElem?_cons_zero, List.getElem?_cons_succ, List.set_cons_zero, List.set_cons_succ, isiC, isiT, tyC, tr_b, machB]
end K39
set_option linter.all false
set_option autoImplicit false
set_option maxRecDepth 100000
set_option maxHeartbeats 16000000
namespace K39
open Sh PySem
/-! ### the eye: roads -/
def LB : Ss := (.cons (.ifs (.or (.not (.tr (.call 12 (.cons (.var 2) (.cons (.idx (.var 0) (.con (.int 1))) .nil))))) (.cmp .le (.slc (.var 2) .none (.some (.con (.int 3)))) (.var 1))) (.cons (.ret (.con (.bl false))) .nil) .nil) (.cons (.asg (.v 1) (.slc (.var 2) .none (.some (.con (.int 3))))) .nil))
def H13 (lb : Ss) : Ss := (.cons (.ifs (.or (.not (.tr (.isi (.var 0) .tuple))) (.or (.cmp .ne (.bi .len (.cons (.var 0) .nil)) (.con (.int 3))) (.cmp .ne (.idx (.var 0) (.con (.int 0))) (.con (.str "machine"))))) (.cons (.ret (.con (.bl false))) .nil) .nil) (.cons (.ifs (.or (.not (.tr (.call 11 (.cons (.idx (.var 0) (.con (.int 1))) (.cons (.con (.int 1)) (.cons (.con (.int 12)) .nil)))))) (.not (.tr (.isi (.idx (.var 0) (.con (.int 2))) .tuple)))) (.cons (.ret (.con (.bl false))) .nil) .nil) (.cons (.ifs (.cmp .gt (.bi .len (.cons (.idx (.var 0) (.con (.int 2))) .nil)) (.con (.int 60))) (.cons (.ret (.con (.bl false))) .nil) .nil) (.cons (.asg (.v 1) (.tup (.cons (.neg (.con (.int 1))) (.cons (.neg (.con (.int 1))) (.cons (.neg (.con (.int 1))) .nil))))) (.cons (.for_ (.v 2) (.seq (.idx (.var 0) (.con (.int 2)))) lb) (.cons (.ret (.con (.bl true))) .nil))))))
theorem b13_is : b13 = H13 LB := rfl
section
variable {call : Nat → List C → Hc → R C} {sub : Nat → Str → Option Bool} {w : Nat} {m R c : C} {P : Int} {h : Hc} {L : List Int}
theorem lb_f (e : call 12 [c, .int P] h = .ok (.bl false) h) : Ss.ev call sub w LB none [some (.tup [m, .int P, R]), some (.tup (L.map C.int)), some c] h = .ret (.bl false) h := by
  simp [LB, Ss.ev, S.ev, Hs.ev, E.ev, Es.ev, T.ev, Pt.put, Pts.put, Pts.len, Es.len, Oe.ev, It.ev, bind_ok, bind_err, bind_bad, th_ok, th_err, th_bad, nxth, retth, errth, badth, noerr_ok, fin_nx, fin_ret, fin_err, tidy_same, tidyX_same, List.getElem?_cons_zero, List.getElem?_cons_succ, List.set_cons_zero, List.set_cons_succ, it1, e, tr_b]
theorem lb_n (e : call 12 [c, .int P] h = .ok (.bl true) h) (hr : roadB P c = true) (hlt : ltI L (k3 c) = false) : Ss.ev call sub w LB none [some (.tup [m, .int P, R]), some (.tup (L.map C.int)), some c] h = .ret (.bl false) h := by
  have e2 := sl_road hr h
  have e3 := le_t (k3 c) L h
  rw [hlt] at e3
  simp only [LB, Ss.ev, S.ev, Hs.ev, E.ev, Es.ev, T.ev, Pt.put, Pts.put, Pts.len, Es.len, Oe.ev, It.ev, bind_ok, bind_err, bind_bad, th_ok, th_err, th_bad, nxth, retth, errth, badth, noerr_ok, fin_nx, fin_ret, fin_err, tidy_same, tidyX_same, List.getElem?_cons_zero, List.getElem?_cons_succ, List.set_cons_zero, List.set_cons_succ, it1, e, tr_b, e2, e3, Bool.not_true, Bool.not_false, Bool.false_eq_true, if_false, if_true]
theorem lb_t (e : call 12 [c, .int P] h = .ok (.bl true) h) (hr : roadB P c = true) (hlt : ltI L (k3 c) = true) : Ss.ev call sub w LB none [some (.tup [m, .int P, R]), some (.tup (L.map C.int)), some c] h = .nx [some (.tup [m, .int P, R]), some (.tup ((k3 c).map C.int)), some c] h := by
  have e2 := sl_road hr h
  have e3 := le_t (k3 c) L h
  rw [hlt] at e3
  simp only [LB, Ss.ev, S.ev, Hs.ev, E.ev, Es.ev, T.ev, Pt.put, Pts.put, Pts.len, Es.len, Oe.ev, It.ev, bind_ok, bind_err, bind_bad, th_ok, th_err, th_bad, nxth, retth, errth, badth, noerr_ok, fin_nx, fin_ret, fin_err, tidy_same, tidyX_same, List.getElem?_cons_zero, List.getElem?_cons_succ, List.set_cons_zero, List.set_cons_succ, it1, e, tr_b, e2, e3, Bool.not_true, Bool.not_false, Bool.false_eq_true, if_false, if_true]
end
theorem lt_first {P : Int} {c : C} (hr : roadB P c = true) : ltI [-1, -1, -1] (k3 c) = true := by
  obtain ⟨a, b, l, m, rfl, h1, _⟩ := road_is hr
  show ltI [-1, -1, -1] [a, b, l] = true
  unfold ltI
  rw [if_neg (by omega)]
  exact decide_eq_true (by omega)
theorem roads_loop {call : Nat → List C → Hc → R C} {sub : Nat → Str → Option Bool} {w : Nat} {m : C} {P : Int} {h : Hc} {cs : List C} (hw : cs.length < w) (e : ∀ c, call 12 [c, .int P] h = .ok (.bl (roadB P c)) h) (y : Option C) :
    (∃ sl, forF (.tre cs) (Pt.put call sub w none (.v 2)) (Ss.ev call sub w LB none) w 0 [some (.tup [m, .int P, .tup cs]), some (.tup ([-1, -1, -1].map C.int)), y] h = .nx sl h ∧ (cs.all (roadB P) && ascB cs) = true) ∨
    (forF (.tre cs) (Pt.put call sub w none (.v 2)) (Ss.ev call sub w LB none) w 0 [some (.tup [m, .int P, .tup cs]), some (.tup ([-1, -1, -1].map C.int)), y] h = .ret (.bl false) h ∧ (cs.all (roadB P) && ascB cs) = false) := by
  rcases forF_ret (it := .tre cs) (n := cs.length) (el := fun i => gC cs i) (g := Pt.put call sub w none (.v 2)) (b := Ss.ev call sub w LB none)
    (fun i sl h' => h' = h ∧ ∃ L z, sl = [some (.tup [m, .int P, .tup cs]), some (.tup (L.map C.int)), z] ∧ (∀ k, k < i → roadB P (gC cs k) = true) ∧ (i = 0 → L = [-1, -1, -1]) ∧ (∀ j, i = j + 1 → L = k3 (gC cs j)) ∧ ∀ k, k + 1 < i → ltI (k3 (gC cs k)) (k3 (gC cs (k + 1))) = true)
    (fun i c h' => h' = h ∧ c = .bl false ∧ (roadB P (gC cs i) = false ∨ ∃ j, i = j + 1 ∧ ltI (k3 (gC cs j)) (k3 (gC cs i)) = false))
    (fun i sl h' _ _ => at_treC cs i h')
    (fun i sl h' ⟨a1, L, z, a2, a3, a4, a5, a6⟩ hi => by
      subst a1 a2
      refine ⟨[some (.tup [m, .int P, .tup cs]), some (.tup (L.map C.int)), some (gC cs i)], h', rfl, ?_⟩
      have e1 := e (gC cs i)
      cases hr : roadB P (gC cs i)
      · rw [hr] at e1
        exact .inr ⟨_, _, lb_f e1, rfl, rfl, .inl rfl⟩
      · rw [hr] at e1
        cases hlt : ltI L (k3 (gC cs i))
        · refine .inr ⟨_, _, lb_n e1 hr hlt, rfl, rfl, .inr ?_⟩
          cases i with
          | zero => rw [a4 rfl, lt_first hr] at hlt; cases hlt
          | succ j => exact ⟨j, rfl, by rw [← a5 j rfl]; exact hlt⟩
        · refine .inl ⟨_, _, .inl (lb_t e1 hr hlt), rfl, _, _, rfl, fun k hk => ?_, fun z => by omega, fun j hj => ?_, fun k hk => ?_⟩
          · by_cases q : k = i
            · subst q; exact hr
            · exact a3 k (by omega)
          · have : j = i := by omega
            subst this; rfl
          · by_cases q : k + 1 = i
            · rw [a5 k q.symm] at hlt
              rw [q]; exact hlt
            · exact a6 k (by omega))
    w 0 [some (.tup [m, .int P, .tup cs]), some (.tup ([-1, -1, -1].map C.int)), y] h ⟨rfl, _, _, rfl, fun k hk => absurd hk (by omega), fun _ => rfl, fun j hj => by omega, fun k hk => absurd hk (by omega)⟩ (Nat.zero_le _) (by omega) with ⟨sl, h', q1, q2, L, z, q3, q4, _, _, q5⟩ | ⟨j, c, h', _, q1, q2, q3, q4, q5⟩
  · subst q2
    refine .inl ⟨sl, q1, ?_⟩
    rw [Bool.and_eq_true]
    refine ⟨all_getD.mpr q4, List.all_eq_true.mpr fun i hi => ?_⟩
    have := List.mem_range.mp hi
    exact q5 i (by omega)
  · subst q3 q4
    refine .inr ⟨q2, ?_⟩
    rw [Bool.and_eq_false_iff]
    rcases q5 with q5 | ⟨k, rfl, q5⟩
    · left
      cases z : cs.all (roadB P)
      · rfl
      · have := all_getD.mp z j q1
        rw [q5] at this
        cases this
    · right
      cases z : ascB cs
      · rfl
      · have := List.all_eq_true.mp z k (List.mem_range.mpr (by omega))
        rw [q5] at this
        cases this
end K39
set_option linter.all false
set_option autoImplicit false
set_option maxRecDepth 100000
set_option maxHeartbeats 16000000
namespace K39
open Sh PySem
variable {h : Hc}
/-! ### values as data -/
structure Dt (h : Hc) (k : Nat) (c : C) (dv : PyData) : Prop where
  d : ∀ m, k < m → toD h m c = some dv
  l : dv.canLay0 = true
  e : dv.depth ≤ k
structure Dts (h : Hc) (k : Nat) (cs : List C) (ds : List PyData) : Prop where
  d : ∀ m, k < m → cs.mapM (toD h m) = some ds
  l : PyData.canLayAll0 ds = true
  e : PyData.depthAll ds ≤ k
theorem Dt.shp {k : Nat} {c : C} {dv : PyData} (d : Dt h k c dv) (hk : k ≤ 30) : SeqAt.shaped dv = true := by
  unfold SeqAt.shaped
  rw [d.l, decide_eq_true (Nat.le_trans d.e (by omega))]; rfl
theorem Dts.nil (k : Nat) : Dts h k [] [] := ⟨fun _ _ => rfl, rfl, Nat.zero_le _⟩
theorem Dts.cons {k : Nat} {c : C} {cs : List C} {d : PyData} {ds : List PyData} (a : Dt h k c d) (b : Dts h k cs ds) : Dts h k (c :: cs) (d :: ds) := by
  refine ⟨fun m hm => ?_, ?_, ?_⟩
  · rw [List.mapM_cons, a.d m hm, b.d m hm]; rfl
  · show (d.canLay0 && PyData.canLayAll0 ds) = true
    rw [a.l, b.l]; rfl
  · show max d.depth (PyData.depthAll ds) ≤ k
    have := a.e; have := b.e; omega
theorem Dts.tup {k : Nat} {cs : List C} {ds : List PyData} (a : Dts h k cs ds) : Dt h (k + 1) (.tup cs) (.tuple ds) := by
  refine ⟨fun m hm => ?_, a.l, ?_⟩
  · match m, hm with
    | m + 1, hm =>
      show (cs.mapM (toD h m)).map PyData.tuple = _
      rw [a.d m (by omega)]; rfl
  · show PyData.depthAll ds + 1 ≤ k + 1
    have := a.e; omega
theorem Dts.lst {k n : Nat} {cs : List C} {ds : List PyData} (a : Dts h k cs ds) (hn : h[n]? = some cs) : Dt h (k + 1) (.ref n) (.list ds) := by
  refine ⟨fun m hm => ?_, a.l, ?_⟩
  · match m, hm with
    | m + 1, hm =>
      show (match h[n]? with
        | some cs => (cs.mapM (toD h m)).map PyData.list
        | none => none) = _
      rw [hn]
      show (cs.mapM (toD h m)).map PyData.list = _
      rw [a.d m (by omega)]; rfl
  · show PyData.depthAll ds + 1 ≤ k + 1
    have := a.e; omega
theorem Dt.mono {k j : Nat} {c : C} {dv : PyData} (a : Dt h k c dv) (hk : k ≤ j) : Dt h j c dv := ⟨fun m hm => a.d m (by omega), a.l, Nat.le_trans a.e hk⟩
theorem Dt.str {z : Str} (hz : SS.contains z = true) (k : Nat) : Dt h k (.str z) (.str z) := ⟨fun m hm => by match m, hm with | m + 1, _ => rfl, so_of hz, Nat.zero_le _⟩
theorem Dt.non (k : Nat) : Dt h k .non .none := ⟨fun m hm => by match m, hm with | m + 1, _ => rfl, rfl, Nat.zero_le _⟩
theorem Dt.int (i : Int) (k : Nat) : Dt h k (.int i) (.int i) := ⟨fun m hm => by match m, hm with | m + 1, _ => rfl, rfl, Nat.zero_le _⟩
theorem Dt.bl (b : Bool) (k : Nat) : Dt h k (.bl b) (.bool b) := ⟨fun m hm => by match m, hm with | m + 1, _ => rfl, rfl, Nat.zero_le _⟩
/-- what comes after this value's kind -/
theorem Dt.kind {k : Nat} {c : C} {dv : PyData} (a : Dt h k c dv) (ho : Ok c = true) : (∃ z, c = .str z ∧ dv = .str z) ∨ (strB c = false ∧ ∀ z, dv ≠ .str z) := by
  have e := a.d (k + 1) (by omega)
  cases c with
  | str z => cases e; exact .inl ⟨z, rfl, rfl⟩
  | frz _ => simp [Ok] at ho
  | rep _ => simp [Ok] at ho
  | dref _ => simp [Ok] at ho
  | non => cases e; exact .inr ⟨rfl, fun z q => by cases q⟩
  | bl _ => cases e; exact .inr ⟨rfl, fun z q => by cases q⟩
  | int _ => cases e; exact .inr ⟨rfl, fun z q => by cases q⟩
  | tup cs =>
    have e : (cs.mapM (toD h k)).map PyData.tuple = some dv := e
    cases hm : cs.mapM (toD h k) with
    | none => rw [hm] at e; cases e
    | some ds => rw [hm] at e; cases e; exact .inr ⟨rfl, fun z q => by cases q⟩
  | ref n =>
    have e : (match h[n]? with
        | some cs => (cs.mapM (toD h k)).map PyData.list
        | none => none) = some dv := e
    cases hn : h[n]? with
    | none => rw [hn] at e; cases e
    | some cs =>
      rw [hn] at e
      have e : (cs.mapM (toD h k)).map PyData.list = some dv := e
      cases hm : cs.mapM (toD h k) with
      | none => rw [hm] at e; cases e
      | some ds => rw [hm] at e; cases e; exact .inr ⟨rfl, fun z q => by cases q⟩
theorem mapM_cons' {f : C → Option PyData} {c : C} {cs : List C} {es : List PyData} (e : (c :: cs).mapM f = some es) : ∃ d ds, es = d :: ds ∧ f c = some d ∧ cs.mapM f = some ds := by
  rw [List.mapM_cons] at e
  cases h1 : f c with
  | none => rw [h1] at e; cases e
  | some d =>
    cases h2 : cs.mapM f with
    | none => rw [h1, h2] at e; cases e
    | some ds => rw [h1, h2] at e; cases e; exact ⟨d, ds, rfl, rfl, rfl⟩
theorem Dt.items {k : Nat} {cs : List C} {dv : PyData} (a : Dt h k (.tup cs) dv) : ∃ ds, dv = .tuple ds ∧ Dts h k cs ds := by
  have e : (cs.mapM (toD h k)).map PyData.tuple = some dv := a.d (k + 1) (by omega)
  cases hm : cs.mapM (toD h k) with
  | none => rw [hm] at e; cases e
  | some ds =>
    rw [hm] at e
    cases e
    refine ⟨ds, rfl, fun m hk => ?_, a.l, ?_⟩
    · have e2 : (cs.mapM (toD h m)).map PyData.tuple = some (.tuple ds) := a.d (m + 1) (by omega)
      cases hm2 : cs.mapM (toD h m) with
      | none => rw [hm2] at e2; cases e2
      | some es => rw [hm2] at e2; cases e2; rfl
    · have := a.e
      have : PyData.depthAll ds + 1 ≤ k := this
      omega
theorem Dts.split {k : Nat} {c : C} {cs : List C} {es : List PyData} (a : Dts h k (c :: cs) es) : ∃ d ds, es = d :: ds ∧ Dt h k c d ∧ Dts h k cs ds := by
  obtain ⟨d, ds, rfl, e1, e2⟩ := mapM_cons' (a.d (k + 1) (by omega))
  have l : (d.canLay0 && PyData.canLayAll0 ds) = true := a.l
  have dp : max d.depth (PyData.depthAll ds) ≤ k := a.e
  rw [Bool.and_eq_true] at l
  refine ⟨d, ds, rfl, ⟨fun m hm => ?_, l.1, by omega⟩, ⟨fun m hm => ?_, l.2, by omega⟩⟩
  · obtain ⟨d', ds', e3, e4, e5⟩ := mapM_cons' (a.d m hm)
    cases e3; exact e4
  · obtain ⟨d', ds', e3, e4, e5⟩ := mapM_cons' (a.d m hm)
    cases e3; exact e5
theorem eq_nil {k : Nat} {x : C} {r : List C} {dv : PyData} (a : Dt h k (.tup (x :: r)) dv) (hk : k ≤ 30) : cmpop .eq (.tup (x :: r)) (.tup []) h = .ok (.bl false) h := by
  obtain ⟨es, rfl, s⟩ := a.items
  obtain ⟨d, ds, rfl, _, _⟩ := s.split
  have sh := a.shp hk
  have e : ceq h 40 (.tup (x :: r)) (.tup []) = some false := by
    show (if (x :: r).length = ([] : List C).length then both (ceq h 39) (x :: r) [] else eqFar h 40 (.tup (x :: r)) (.tup [])) = _
    rw [if_neg (by simp)]
    unfold eqFar
    rw [a.d 40 (by omega)]
    show (if SeqAt.shaped (.tuple (d :: ds)) && SeqAt.shaped (.tuple []) then some (PyData.eqv (.tuple (d :: ds)) (.tuple [])) else none) = _
    rw [sh]
    rfl
  show (match ceq h 40 (.tup (x :: r)) (.tup []) with
    | some b => R.ok (C.bl b) h
    | none => .bad) = _
  rw [e]
theorem eq_nn (h : Hc) : cmpop .eq (.tup []) (.tup []) h = .ok (.bl true) h := rfl
def isM : C → Bool
  | .str w => w == "machine"
  | _ => false
theorem eqv_str {d : PyData} {s : Str} (hd : ∀ z, d ≠ .str z) : PyData.eqv d (.str s) = false ∧ PyData.eqv (.str s) d = false := by
  cases d <;> first | exact absurd rfl (hd _) | exact ⟨rfl, rfl⟩
theorem ne_mach {k : Nat} {x : C} {dv : PyData} (a : Dt h k x dv) (hk : k ≤ 30) (ho : Ok x = true) : cmpop .ne x (.str "machine") h = .ok (.bl (!(isM x))) h := by
  have e : ceq h 40 x (.str "machine") = some (isM x) := by
    have e0 : ceq h 40 x (.str "machine") = eqFar h 40 x (.str "machine") := by cases x <;> rfl
    rw [e0]
    unfold eqFar
    rw [a.d 40 (by omega)]
    show (if SeqAt.shaped dv && SeqAt.shaped (.str "machine") then some (PyData.eqv dv (.str "machine")) else none) = _
    rw [a.shp hk, show SeqAt.shaped (.str "machine") = true by decide +kernel]
    rcases a.kind ho with ⟨z, rfl, rfl⟩ | ⟨s, hd⟩
    · rfl
    · rw [(eqv_str hd).1, show isM x = false by cases x <;> first | rfl | cases s]
      rfl
  show (match ceq h 40 x (.str "machine") with
    | some b => R.ok (C.bl (!b)) h
    | none => .bad) = _
  rw [e]
/-! ### the eye of machines -/
def eyeB : C → Bool
  | .tup [a, b, r] => isM a && (inI 1 12 b && (isiC r .tuple && eyeR b r))
  | _ => false
where eyeR : C → C → Bool
  | .int P, r => arB P r
  | _, _ => false
theorem eye_is (x : C) : eyeB x = machB x := by
  cases x with
  | tup cs =>
    by_cases hl : cs.length = 3
    · obtain ⟨a, b, r, rfl⟩ := tup3 hl
      rcases str_or a with ⟨z, rfl⟩ | ha
      · rcases intB_or b with ⟨P, rfl⟩ | hb
        · show ((z == ("machine" : Str)) && (inI 1 12 (.int P) && (isiC r .tuple && arB P r))) = ((z == ("machine" : Str)) && (decide (1 ≤ P) && decide (P ≤ 12) && arB P r))
          congr 1
          show ((decide (1 ≤ P) && decide (P ≤ 12)) && (isiC r .tuple && arB P r)) = _
          congr 1
          cases r <;> rfl
        · rw [mach_ni hb]
          show (isM (.str z) && (inI 1 12 b && _)) = false
          rw [(intB_not hb).2]
          simp
      · rw [mach_ns ha]
        show (isM a && _) = false
        rw [show isM a = false by cases a <;> first | rfl | cases ha]
        rfl
    · rw [mach3 hl]
      unfold eyeB
      split
      · rename_i e
        injection e with e
        subst e
        exact absurd rfl hl
      · rfl
  | _ => rfl
section
variable {call : Nat → List C → Hc → R C} {sub : Nat → Str → Option Bool} {w : Nat} {lb : Ss} {a b r : C} {P : Int} {s2 s3 : Option C}
theorem h13_n {x : C} (hx : isiC x .tuple = false) : Ss.ev call sub w (H13 lb) none [some x, s2, s3] h = .ret (.bl false) h := by
  simp [H13, Ss.ev, S.ev, Hs.ev, E.ev, Es.ev, T.ev, Pt.put, Pts.put, Pts.len, Es.len, Oe.ev, It.ev, bind_ok, bind_err, bind_bad, th_ok, th_err, th_bad, nxth, retth, errth, badth, noerr_ok, fin_nx, fin_ret, fin_err, tidy_same, tidyX_same, List.getElem?_cons_zero, List.getElem?_cons_succ, List.set_cons_zero, List.set_cons_succ, hx, tr_b]
theorem h13_l {cs : List C} (hl : cs.length ≠ 3) : Ss.ev call sub w (H13 lb) none [some (.tup cs), s2, s3] h = .ret (.bl false) h := by
  have hl2 : ((cs.length : Int) == 3) = false := by simp; omega
  simp [H13, Ss.ev, S.ev, Hs.ev, E.ev, Es.ev, T.ev, Pt.put, Pts.put, Pts.len, Es.len, Oe.ev, It.ev, bind_ok, bind_err, bind_bad, th_ok, th_err, th_bad, nxth, retth, errth, badth, noerr_ok, fin_nx, fin_ret, fin_err, tidy_same, tidyX_same, List.getElem?_cons_zero, List.getElem?_cons_succ, List.set_cons_zero, List.set_cons_succ, isi_t, tr_b, len_t, ne_i', hl2]
theorem h13_m (e : cmpop .ne a (.str "machine") h = .ok (.bl true) h) : Ss.ev call sub w (H13 lb) none [some (.tup [a, b, r]), s2, s3] h = .ret (.bl false) h := by
  simp [H13, Ss.ev, S.ev, Hs.ev, E.ev, Es.ev, T.ev, Pt.put, Pts.put, Pts.len, Es.len, Oe.ev, It.ev, bind_ok, bind_err, bind_bad, th_ok, th_err, th_bad, nxth, retth, errth, badth, noerr_ok, fin_nx, fin_ret, fin_err, tidy_same, tidyX_same, List.getElem?_cons_zero, List.getElem?_cons_succ, List.set_cons_zero, List.set_cons_succ, isi_t, tr_b, len_t, ln3, ne_i', it0, e]
theorem h13_w (e : cmpop .ne a (.str "machine") h = .ok (.bl false) h) (e2 : call 11 [b, .int 1, .int 12] h = .ok (.bl false) h) : Ss.ev call sub w (H13 lb) none [some (.tup [a, b, r]), s2, s3] h = .ret (.bl false) h := by
  simp [H13, Ss.ev, S.ev, Hs.ev, E.ev, Es.ev, T.ev, Pt.put, Pts.put, Pts.len, Es.len, Oe.ev, It.ev, bind_ok, bind_err, bind_bad, th_ok, th_err, th_bad, nxth, retth, errth, badth, noerr_ok, fin_nx, fin_ret, fin_err, tidy_same, tidyX_same, List.getElem?_cons_zero, List.getElem?_cons_succ, List.set_cons_zero, List.set_cons_succ, isi_t, tr_b, len_t, ln3, ne_i', it0, it1, e, e2]
theorem h13_r (e : cmpop .ne a (.str "machine") h = .ok (.bl false) h) (e2 : call 11 [b, .int 1, .int 12] h = .ok (.bl true) h) (hr : isiC r .tuple = false) : Ss.ev call sub w (H13 lb) none [some (.tup [a, b, r]), s2, s3] h = .ret (.bl false) h := by
  simp [H13, Ss.ev, S.ev, Hs.ev, E.ev, Es.ev, T.ev, Pt.put, Pts.put, Pts.len, Es.len, Oe.ev, It.ev, bind_ok, bind_err, bind_bad, th_ok, th_err, th_bad, nxth, retth, errth, badth, noerr_ok, fin_nx, fin_ret, fin_err, tidy_same, tidyX_same, List.getElem?_cons_zero, List.getElem?_cons_succ, List.set_cons_zero, List.set_cons_succ, isi_t, tr_b, len_t, ln3, ne_i', it0, it1, it2, e, e2, hr]
theorem h13_g (e : cmpop .ne a (.str "machine") h = .ok (.bl false) h) (e2 : call 11 [b, .int 1, .int 12] h = .ok (.bl true) h) {cs : List C} (hl : ¬ cs.length ≤ 60) : Ss.ev call sub w (H13 lb) none [some (.tup [a, b, .tup cs]), s2, s3] h = .ret (.bl false) h := by
  have hl2 : decide ((60 : Int) < (cs.length : Int)) = true := by simp; omega
  simp [H13, Ss.ev, S.ev, Hs.ev, E.ev, Es.ev, T.ev, Pt.put, Pts.put, Pts.len, Es.len, Oe.ev, It.ev, bind_ok, bind_err, bind_bad, th_ok, th_err, th_bad, nxth, retth, errth, badth, noerr_ok, fin_nx, fin_ret, fin_err, tidy_same, tidyX_same, List.getElem?_cons_zero, List.getElem?_cons_succ, List.set_cons_zero, List.set_cons_succ, isi_t, tr_b, len_t, ln3, ne_i', it0, it1, it2, e, e2, gt_i', hl2]
theorem h13_t (e : cmpop .ne a (.str "machine") h = .ok (.bl false) h) (e2 : call 11 [b, .int 1, .int 12] h = .ok (.bl true) h) {cs : List C} (hl : cs.length ≤ 60) {sl : Sl}
    (el : forF (.tre cs) (Pt.put call sub w none (.v 2)) (Ss.ev call sub w lb none) w 0 [some (.tup [a, b, .tup cs]), some (.tup ([-1, -1, -1].map C.int)), s3] h = .nx sl h) : Ss.ev call sub w (H13 lb) none [some (.tup [a, b, .tup cs]), s2, s3] h = .ret (.bl true) h := by
  have hl2 : decide ((60 : Int) < (cs.length : Int)) = false := by simp; omega
  have hp : (Pt.put call sub w none (.v 2)) = fun c sl h => R.ok (sl.set 2 (some c)) h := by funext c sl h; rfl
  rw [hp] at el
  simp only [List.map_cons, List.map_nil] at el
  simp [H13, Ss.ev, S.ev, Hs.ev, E.ev, Es.ev, T.ev, Pt.put, Pts.put, Pts.len, Es.len, Oe.ev, It.ev, bind_ok, bind_err, bind_bad, th_ok, th_err, th_bad, nxth, retth, errth, badth, noerr_ok, fin_nx, fin_ret, fin_err, tidy_same, tidyX_same, List.getElem?_cons_zero, List.getElem?_cons_succ, List.set_cons_zero, List.set_cons_succ, isi_t, tr_b, len_t, ln3, ne_i', it0, it1, it2, e, e2, gt_i', hl2, el, lineN]
theorem h13_f (e : cmpop .ne a (.str "machine") h = .ok (.bl false) h) (e2 : call 11 [b, .int 1, .int 12] h = .ok (.bl true) h) {cs : List C} (hl : cs.length ≤ 60)
    (el : forF (.tre cs) (Pt.put call sub w none (.v 2)) (Ss.ev call sub w lb none) w 0 [some (.tup [a, b, .tup cs]), some (.tup ([-1, -1, -1].map C.int)), s3] h = .ret (.bl false) h) : Ss.ev call sub w (H13 lb) none [some (.tup [a, b, .tup cs]), s2, s3] h = .ret (.bl false) h := by
  have hl2 : decide ((60 : Int) < (cs.length : Int)) = false := by simp; omega
  have hp : (Pt.put call sub w none (.v 2)) = fun c sl h => R.ok (sl.set 2 (some c)) h := by funext c sl h; rfl
  rw [hp] at el
  simp only [List.map_cons, List.map_nil] at el
  simp [H13, Ss.ev, S.ev, Hs.ev, E.ev, Es.ev, T.ev, Pt.put, Pts.put, Pts.len, Es.len, Oe.ev, It.ev, bind_ok, bind_err, bind_bad, th_ok, th_err, th_bad, nxth, retth, errth, badth, noerr_ok, fin_nx, fin_ret, fin_err, tidy_same, tidyX_same, List.getElem?_cons_zero, List.getElem?_cons_succ, List.set_cons_zero, List.set_cons_succ, isi_t, tr_b, len_t, ln3, ne_i', it0, it1, it2, e, e2, gt_i', hl2, el, lineN]
end
theorem r13 (d : Nat) (x : C) (ho : Ok x = true) {k : Nat} {dv : PyData} (a : Dt h k x dv) (hk : k ≤ 30) : Rn (d + 4) 13 [x] h = .ok (.bl (machB x)) h := by
  rw [u13, b13_is, ← eye_is]
  cases x with
  | tup cs =>
    by_cases hl : cs.length = 3
    · obtain ⟨m, b, r, rfl⟩ := tup3 hl
      obtain ⟨ds, _, s⟩ := a.items
      obtain ⟨dm, _, _, am, _⟩ := s.split
      have om : Ok m = true := oks_mem (ok_tup ho).2 m (by simp)
      have e := ne_mach am hk om
      have e2 := r11 (d + 1) h b 1 12
      show _ = R.ok (C.bl (isM m && (inI 1 12 b && (isiC r .tuple && eyeB.eyeR b r)))) h
      cases hm : isM m
      · rw [hm] at e
        rw [h13_m e]
        exact tidy_same _ _
      rw [hm] at e
      cases hb : inI 1 12 b
      · rw [hb] at e2
        rw [h13_w e e2]
        exact tidy_same _ _
      rw [hb] at e2
      cases hr : isiC r .tuple
      · rw [h13_r e e2 hr]
        exact tidy_same _ _
      have : ∃ P, b = .int P := by cases b <;> first | exact ⟨_, rfl⟩ | cases hb
      obtain ⟨P, rfl⟩ := this
      have : ∃ cs, r = .tup cs := by
        have or_ : Ok r = true := oks_mem (ok_tup ho).2 r (by simp)
        cases r <;> first | exact ⟨_, rfl⟩ | (cases hr; done)
      obtain ⟨cs, rfl⟩ := this
      show _ = R.ok (C.bl (true && (true && (true && (decide (cs.length ≤ 60) && (cs.all (roadB P) && ascB cs)))))) h
      by_cases hl : cs.length ≤ 60
      · rcases roads_loop (call := Rn (d + 3)) (sub := sub) (w := WH) (m := m) (P := P) (h := h) (cs := cs) (by unfold WH; exact Nat.lt_of_le_of_lt hl (by decide)) (fun c => r12 d h c P) none with ⟨sl, q1, q2⟩ | ⟨q1, q2⟩
        · rw [h13_t e e2 hl q1, q2, decide_eq_true hl]
          exact tidy_same _ _
        · rw [h13_f e e2 hl q1, q2, decide_eq_true hl]
          exact tidy_same _ _
      · rw [h13_g e e2 hl, decide_eq_false hl]
        exact tidy_same _ _
    · have e0 : eyeB (.tup cs) = false := by rw [eye_is]; exact mach3 hl
      rw [h13_l hl, e0]
      exact tidy_same _ _
  | _ => first | (simp [Ok] at ho; done) | (rw [h13_n rfl]; exact tidy_same _ _)
end K39
set_option linter.all false
set_option autoImplicit false
set_option maxRecDepth 100000
set_option maxHeartbeats 16000000
namespace K39
open Sh PySem
variable {h : Hc}
/-! ### tables -/
abbrev tieB : C → Bool := inI 0 1000000
def rowB (n : Nat) : C → Bool
  | .tup cs => decide (cs.length = n) && cs.all tieB
  | _ => false
def tabB : C → Bool
  | .tup rows => decide (1 ≤ rows.length ∧ rows.length ≤ 12) && rows.all (rowB rows.length)
  | _ => false
def AL5 : E := .bi .all (.cons (.comp (.andv (.call 1 (.cons (.var 2) .nil)) (.cmp .le (.var 2) (.glob "MOST_TIES" (.int 1000000)))) (.v 2) (.seq (.var 0)) .yes) .nil)
def H5 (a : E) : Ss := (.cons (.ifs (.or (.not (.tr (.isi (.var 0) .tuple))) (.cmp .ne (.bi .len (.cons (.var 0) .nil)) (.var 1))) (.cons (.ret (.con (.bl false))) .nil) .nil) (.cons (.ret a) .nil))
theorem b5_is : b5 = H5 AL5 := rfl
def AL6 : E := .bi .all (.cons (.comp (.call 5 (.cons (.var 1) (.cons (.bi .len (.cons (.var 0) .nil)) .nil))) (.v 1) (.seq (.var 0)) .yes) .nil)
def H6 (a : E) : Ss := (.cons (.ifs (.or (.not (.tr (.isi (.var 0) .tuple))) (.not (.chn .le .le (.con (.int 1)) (.bi .len (.cons (.var 0) .nil)) (.glob "MOST_PLACES" (.int 12))))) (.cons (.ret (.con (.bl false))) .nil) .nil) (.cons (.ret a) .nil))
theorem b6_is : b6 = H6 AL6 := rfl
theorem tie_ev (d : Nat) (h : Hc) (c : C) (s0 s1 : Option C) : E.ev (Rn (d + 2)) sub WH none (.andv (.call 1 (.cons (.var 2) .nil)) (.cmp .le (.var 2) (.glob "MOST_TIES" (.int 1000000)))) [s0, s1, some c] h = .ok (.bl (tieB c)) h := by
  cases c with
  | int i => by_cases z : 0 ≤ i <;> simp [Ss.ev, S.ev, Hs.ev, E.ev, Es.ev, T.ev, Pt.put, Pts.put, Pts.len, Es.len, Oe.ev, It.ev, bind_ok, bind_err, bind_bad, th_ok, th_err, th_bad, nxth, retth, errth, badth, noerr_ok, fin_nx, fin_ret, fin_err, tidy_same, tidyX_same, List.getElem?_cons_zero, List.getElem?_cons_succ, List.set_cons_zero, List.set_cons_succ, r1, cntB, le_i, tieB, inI, z]
  | _ => simp [Ss.ev, S.ev, Hs.ev, E.ev, Es.ev, T.ev, Pt.put, Pts.put, Pts.len, Es.len, Oe.ev, It.ev, bind_ok, bind_err, bind_bad, th_ok, th_err, th_bad, nxth, retth, errth, badth, noerr_ok, fin_nx, fin_ret, fin_err, tidy_same, tidyX_same, List.getElem?_cons_zero, List.getElem?_cons_succ, List.set_cons_zero, List.set_cons_succ, r1, cntB, tieB, inI]
theorem al5 (d : Nat) (h : Hc) {cs : List C} (hl : cs.length ≤ 1000) (s1 : Option C) : ∃ Y, E.ev (Rn (d + 2)) sub WH none AL5 [some (.tup cs), s1, none] h = .ok (.bl (cs.all tieB)) (h ++ [Y]) := by
  have e1 := comp_tre (rest := cs) (f := tieB) (h := h) (g := fun c sl h => Pt.put (Rn (d + 2)) sub WH none (.v 2) c sl h) (t := fun sl h => T.ev (Rn (d + 2)) sub WH none .yes sl h)
    (e := fun sl h => E.ev (Rn (d + 2)) sub WH none (.andv (.call 1 (.cons (.var 2) .nil)) (.cmp .le (.var 2) (.glob "MOST_TIES" (.int 1000000)))) sl h) (sl := [some (.tup cs), s1, none]) hl
    (fun c hc => ⟨[some (.tup cs), s1, some c], rfl, rfl, tie_ev d h c _ _⟩)
  have e2 := all_ref (h := h ++ [cs.map fun c => C.bl (tieB c)]) (n := h.length) (cs := cs) (f := tieB) (last_get _ _)
  refine ⟨cs.map fun c => C.bl (tieB c), ?_⟩
  unfold AL5
  unfold E.ev Es.ev E.ev Es.ev
  show ((((compF (.tre cs) _ _ _ WH 0 [some (.tup cs), s1, none] [] h).noerr.bind fun xs h2 => R.ok (C.ref h2.length) (h2 ++ [xs])).bind fun x h1 => R.ok [x] h1).bind fun xs h1 => bi .all xs h1) = _
  rw [e1]
  exact e2
section
variable {call : Nat → List C → Hc → R C} {sub : Nat → Str → Option Bool} {w : Nat} {a : E} {h1 : Hc} {cs : List C} {n : Int} {b : Bool} {s2 : Option C}
theorem h5_n {x : C} (hx : isiC x .tuple = false) : Ss.ev call sub w (H5 a) none [some x, some (.int n), s2] h = .ret (.bl false) h := by
  simp [H5, Ss.ev, S.ev, Hs.ev, E.ev, Es.ev, T.ev, Pt.put, Pts.put, Pts.len, Es.len, Oe.ev, It.ev, bind_ok, bind_err, bind_bad, th_ok, th_err, th_bad, nxth, retth, errth, badth, noerr_ok, fin_nx, fin_ret, fin_err, tidy_same, tidyX_same, List.getElem?_cons_zero, List.getElem?_cons_succ, List.set_cons_zero, List.set_cons_succ, hx, tr_b]
theorem h5_l (hl : ((cs.length : Int) == n) = false) : Ss.ev call sub w (H5 a) none [some (.tup cs), some (.int n), s2] h = .ret (.bl false) h := by
  simp [H5, Ss.ev, S.ev, Hs.ev, E.ev, Es.ev, T.ev, Pt.put, Pts.put, Pts.len, Es.len, Oe.ev, It.ev, bind_ok, bind_err, bind_bad, th_ok, th_err, th_bad, nxth, retth, errth, badth, noerr_ok, fin_nx, fin_ret, fin_err, tidy_same, tidyX_same, List.getElem?_cons_zero, List.getElem?_cons_succ, List.set_cons_zero, List.set_cons_succ, isi_t, tr_b, len_t, ne_i', hl]
theorem h5_t (hl : ((cs.length : Int) == n) = true) (e : E.ev call sub w none a [some (.tup cs), some (.int n), s2] h = .ok (.bl b) h1) : Ss.ev call sub w (H5 a) none [some (.tup cs), some (.int n), s2] h = .ret (.bl b) h1 := by
  simp [H5, Ss.ev, S.ev, Hs.ev, E.ev, Es.ev, T.ev, Pt.put, Pts.put, Pts.len, Es.len, Oe.ev, It.ev, bind_ok, bind_err, bind_bad, th_ok, th_err, th_bad, nxth, retth, errth, badth, noerr_ok, fin_nx, fin_ret, fin_err, tidy_same, tidyX_same, List.getElem?_cons_zero, List.getElem?_cons_succ, List.set_cons_zero, List.set_cons_succ, isi_t, tr_b, len_t, ne_i', hl, e]
theorem h6_n {x : C} (hx : isiC x .tuple = false) : Ss.ev call sub w (H6 a) none [some x, s2] h = .ret (.bl false) h := by
  simp [H6, Ss.ev, S.ev, Hs.ev, E.ev, Es.ev, T.ev, Pt.put, Pts.put, Pts.len, Es.len, Oe.ev, It.ev, bind_ok, bind_err, bind_bad, th_ok, th_err, th_bad, nxth, retth, errth, badth, noerr_ok, fin_nx, fin_ret, fin_err, tidy_same, tidyX_same, List.getElem?_cons_zero, List.getElem?_cons_succ, List.set_cons_zero, List.set_cons_succ, hx, tr_b]
theorem h6_l (hl : ¬ (1 ≤ cs.length ∧ cs.length ≤ 12)) : Ss.ev call sub w (H6 a) none [some (.tup cs), s2] h = .ret (.bl false) h := by
  by_cases z : 1 ≤ cs.length
  · have z1 : decide ((1 : Int) ≤ (cs.length : Int)) = true := by simp; omega
    have z2 : decide ((cs.length : Int) ≤ 12) = false := by simp; omega
    simp [H6, Ss.ev, S.ev, Hs.ev, E.ev, Es.ev, T.ev, Pt.put, Pts.put, Pts.len, Es.len, Oe.ev, It.ev, bind_ok, bind_err, bind_bad, th_ok, th_err, th_bad, nxth, retth, errth, badth, noerr_ok, fin_nx, fin_ret, fin_err, tidy_same, tidyX_same, List.getElem?_cons_zero, List.getElem?_cons_succ, List.set_cons_zero, List.set_cons_succ, isi_t, tr_b, len_t, le_i, z1, z2]
  · have z1 : decide ((1 : Int) ≤ (cs.length : Int)) = false := by simp; omega
    simp [H6, Ss.ev, S.ev, Hs.ev, E.ev, Es.ev, T.ev, Pt.put, Pts.put, Pts.len, Es.len, Oe.ev, It.ev, bind_ok, bind_err, bind_bad, th_ok, th_err, th_bad, nxth, retth, errth, badth, noerr_ok, fin_nx, fin_ret, fin_err, tidy_same, tidyX_same, List.getElem?_cons_zero, List.getElem?_cons_succ, List.set_cons_zero, List.set_cons_succ, isi_t, tr_b, len_t, le_i, z1]
theorem h6_t (hl : 1 ≤ cs.length ∧ cs.length ≤ 12) (e : E.ev call sub w none a [some (.tup cs), s2] h = .ok (.bl b) h1) : Ss.ev call sub w (H6 a) none [some (.tup cs), s2] h = .ret (.bl b) h1 := by
  have z1 : decide ((1 : Int) ≤ (cs.length : Int)) = true := by simp; omega
  have z2 : decide ((cs.length : Int) ≤ 12) = true := by simp; omega
  simp [H6, Ss.ev, S.ev, Hs.ev, E.ev, Es.ev, T.ev, Pt.put, Pts.put, Pts.len, Es.len, Oe.ev, It.ev, bind_ok, bind_err, bind_bad, th_ok, th_err, th_bad, nxth, retth, errth, badth, noerr_ok, fin_nx, fin_ret, fin_err, tidy_same, tidyX_same, List.getElem?_cons_zero, List.getElem?_cons_succ, List.set_cons_zero, List.set_cons_succ, isi_t, tr_b, len_t, le_i, z1, z2, e]
end
theorem r5 (d : Nat) (cl : ClH h) (x : C) {n : Nat} (hn : n ≤ 1000) : Rn (d + 3) 5 [x, .int (n : Int)] h = .ok (.bl (rowB n x)) h := by
  rw [u5, b5_is]
  cases x with
  | tup cs =>
    show _ = R.ok (C.bl (decide (cs.length = n) && cs.all tieB)) h
    by_cases hl : cs.length = n
    · obtain ⟨Y, e⟩ := al5 d h (cs := cs) (by omega) (some (.int (n : Int)))
      rw [h5_t (by simp [hl]) e, decide_eq_true hl]
      exact tidy_b cl _ _
    · rw [h5_l (by simp; omega), decide_eq_false hl]
      exact tidy_same _ _
  | _ =>
    rw [h5_n rfl]
    exact tidy_same _ _
theorem al6 (d : Nat) (cl : ClH h) {cs : List C} (hl : cs.length ≤ 12) : ∃ Y, E.ev (Rn (d + 3)) sub WH none AL6 [some (.tup cs), none] h = .ok (.bl (cs.all (rowB cs.length))) (h ++ [Y]) := by
  have e1 := comp_tre (rest := cs) (f := rowB cs.length) (h := h) (g := fun c sl h => Pt.put (Rn (d + 3)) sub WH none (.v 1) c sl h) (t := fun sl h => T.ev (Rn (d + 3)) sub WH none .yes sl h)
    (e := fun sl h => E.ev (Rn (d + 3)) sub WH none (.call 5 (.cons (.var 1) (.cons (.bi .len (.cons (.var 0) .nil)) .nil))) sl h) (sl := [some (.tup cs), none]) (by omega)
    (fun c hc => ⟨[some (.tup cs), some c], rfl, rfl, r5 d cl c (n := cs.length) (by omega)⟩)
  have e2 := all_ref (h := h ++ [cs.map fun c => C.bl (rowB cs.length c)]) (n := h.length) (cs := cs) (f := rowB cs.length) (last_get _ _)
  refine ⟨cs.map fun c => C.bl (rowB cs.length c), ?_⟩
  unfold AL6
  unfold E.ev Es.ev E.ev Es.ev
  show ((((compF (.tre cs) _ _ _ WH 0 [some (.tup cs), none] [] h).noerr.bind fun xs h2 => R.ok (C.ref h2.length) (h2 ++ [xs])).bind fun x h1 => R.ok [x] h1).bind fun xs h1 => bi .all xs h1) = _
  rw [e1]
  exact e2
theorem r6 (d : Nat) (cl : ClH h) (x : C) : Rn (d + 4) 6 [x] h = .ok (.bl (tabB x)) h := by
  rw [u6, b6_is]
  cases x with
  | tup cs =>
    show _ = R.ok (C.bl (decide (1 ≤ cs.length ∧ cs.length ≤ 12) && cs.all (rowB cs.length))) h
    by_cases hl : 1 ≤ cs.length ∧ cs.length ≤ 12
    · obtain ⟨Y, e⟩ := al6 d cl hl.2
      rw [h6_t hl e, decide_eq_true hl]
      exact tidy_b cl _ _
    · rw [h6_l hl, decide_eq_false hl]
      exact tidy_same _ _
  | _ =>
    rw [h6_n rfl]
    exact tidy_same _ _
/-! ### the eye of tables -/
def LI : Ss := (.cons (.ifs (.not (.tr (.call 11 (.cons (.var 2) (.cons (.con (.int 0)) (.cons (.bin .pow (.con (.int 10)) (.con (.int 6))) .nil)))))) (.cons (.ret (.con (.bl false))) .nil) .nil) .nil)
def LO (li : Ss) : Ss := (.cons (.ifs (.or (.not (.tr (.isi (.var 1) .tuple))) (.cmp .ne (.bi .len (.cons (.var 1) .nil)) (.bi .len (.cons (.var 0) .nil)))) (.cons (.ret (.con (.bl false))) .nil) .nil) (.cons (.for_ (.v 2) (.seq (.var 1)) li) .nil))
def H14 (lo : Ss) : Ss := (.cons (.ifs (.or (.not (.tr (.isi (.var 0) .tuple))) (.inr (.bi .len (.cons (.var 0) .nil)) true (.cons (.con (.int 1)) (.cons (.con (.int 13)) .nil)))) (.cons (.ret (.con (.bl false))) .nil) .nil) (.cons (.for_ (.v 1) (.seq (.var 0)) lo) (.cons (.ret (.con (.bl true))) .nil)))
theorem b14_is : b14 = H14 (LO LI) := rfl
section
variable {call : Nat → List C → Hc → R C} {sub : Nat → Str → Option Bool} {w : Nat} {c : C} {s0 s1 s2 : Option C}
theorem p6 (h : Hc) : powC (.int 10) (.int 6) h = .ok (.int 1000000) h := rfl
theorem li_f (e : call 11 [c, .int 0, .int 1000000] h = .ok (.bl false) h) : Ss.ev call sub w LI none [s0, s1, some c] h = .ret (.bl false) h := by
  have hp : binop .pow (.int 10) (.int 6) h = .ok (.int 1000000) h := p6 h
  simp [LI, Ss.ev, S.ev, Hs.ev, E.ev, Es.ev, T.ev, Pt.put, Pts.put, Pts.len, Es.len, Oe.ev, It.ev, bind_ok, bind_err, bind_bad, th_ok, th_err, th_bad, nxth, retth, errth, badth, noerr_ok, fin_nx, fin_ret, fin_err, tidy_same, tidyX_same, List.getElem?_cons_zero, List.getElem?_cons_succ, List.set_cons_zero, List.set_cons_succ, hp, e, tr_b]
theorem li_t (e : call 11 [c, .int 0, .int 1000000] h = .ok (.bl true) h) : Ss.ev call sub w LI none [s0, s1, some c] h = .nx [s0, s1, some c] h := by
  have hp : binop .pow (.int 10) (.int 6) h = .ok (.int 1000000) h := p6 h
  simp [LI, Ss.ev, S.ev, Hs.ev, E.ev, Es.ev, T.ev, Pt.put, Pts.put, Pts.len, Es.len, Oe.ev, It.ev, bind_ok, bind_err, bind_bad, th_ok, th_err, th_bad, nxth, retth, errth, badth, noerr_ok, fin_nx, fin_ret, fin_err, tidy_same, tidyX_same, List.getElem?_cons_zero, List.getElem?_cons_succ, List.set_cons_zero, List.set_cons_succ, hp, e, tr_b]
theorem row_loop {cs : List C} (hw : cs.length < w) (e : ∀ c, call 11 [c, .int 0, .int 1000000] h = .ok (.bl (tieB c)) h) (s0 s1 y : Option C) :
    (∃ z, forF (.tre cs) (Pt.put call sub w none (.v 2)) (Ss.ev call sub w LI none) w 0 [s0, s1, y] h = .nx [s0, s1, z] h ∧ cs.all tieB = true) ∨ (forF (.tre cs) (Pt.put call sub w none (.v 2)) (Ss.ev call sub w LI none) w 0 [s0, s1, y] h = .ret (.bl false) h ∧ cs.all tieB = false) := by
  rcases forF_ret (it := .tre cs) (n := cs.length) (el := fun i => gC cs i) (g := Pt.put call sub w none (.v 2)) (b := Ss.ev call sub w LI none)
    (fun i sl h' => h' = h ∧ ∃ z, sl = [s0, s1, z] ∧ ∀ k, k < i → tieB (gC cs k) = true) (fun i c h' => h' = h ∧ c = .bl false ∧ tieB (gC cs i) = false) (fun i sl h' _ _ => at_treC cs i h')
    (fun i sl h' ⟨a1, z, a2, a3⟩ hi => by
      subst a1 a2
      refine ⟨[s0, s1, some (gC cs i)], h', rfl, ?_⟩
      have e1 := e (gC cs i)
      cases hr : tieB (gC cs i)
      · rw [hr] at e1
        exact .inr ⟨_, _, li_f e1, rfl, rfl, rfl⟩
      · rw [hr] at e1
        refine .inl ⟨_, _, .inl (li_t e1), rfl, _, rfl, fun k hk => ?_⟩
        by_cases q : k = i
        · subst q; exact hr
        · exact a3 k (by omega)) w 0 [s0, s1, y] h ⟨rfl, _, rfl, fun k hk => absurd hk (by omega)⟩ (Nat.zero_le _) (by omega) with ⟨sl, h', q1, q2, z, q3, q4⟩ | ⟨j, c, h', _, q1, q2, q3, q4, q5⟩
  · subst q2 q3
    exact .inl ⟨z, q1, all_getD.mpr q4⟩
  · subst q3 q4
    refine .inr ⟨q2, ?_⟩
    cases z : cs.all tieB
    · rfl
    · have := all_getD.mp z j q1
      rw [q5] at this
      cases this
theorem lo_n {li : Ss} {V : C} (hx : isiC c .tuple = false) : Ss.ev call sub w (LO li) none [some V, some c, s2] h = .ret (.bl false) h := by
  simp [LO, Ss.ev, S.ev, Hs.ev, E.ev, Es.ev, T.ev, Pt.put, Pts.put, Pts.len, Es.len, Oe.ev, It.ev, bind_ok, bind_err, bind_bad, th_ok, th_err, th_bad, nxth, retth, errth, badth, noerr_ok, fin_nx, fin_ret, fin_err, tidy_same, tidyX_same, List.getElem?_cons_zero, List.getElem?_cons_succ, List.set_cons_zero, List.set_cons_succ, hx, tr_b]
theorem lo_l {li : Ss} {cs rs : List C} (hl : cs.length ≠ rs.length) : Ss.ev call sub w (LO li) none [some (.tup rs), some (.tup cs), s2] h = .ret (.bl false) h := by
  have hl2 : ((cs.length : Int) == (rs.length : Int)) = false := by simp; omega
  simp [LO, Ss.ev, S.ev, Hs.ev, E.ev, Es.ev, T.ev, Pt.put, Pts.put, Pts.len, Es.len, Oe.ev, It.ev, bind_ok, bind_err, bind_bad, th_ok, th_err, th_bad, nxth, retth, errth, badth, noerr_ok, fin_nx, fin_ret, fin_err, tidy_same, tidyX_same, List.getElem?_cons_zero, List.getElem?_cons_succ, List.set_cons_zero, List.set_cons_succ, isi_t, tr_b, len_t, ne_i', hl2]
theorem lo_t {li : Ss} {cs rs : List C} (hl : cs.length = rs.length) {r : RS'} (e : forF (.tre cs) (Pt.put call sub w none (.v 2)) (Ss.ev call sub w li none) w 0 [some (.tup rs), some (.tup cs), s2] h = r) (hr : (∃ sl h', r = .nx sl h') ∨ ∃ c h', r = .ret c h') : Ss.ev call sub w (LO li) none [some (.tup rs), some (.tup cs), s2] h = r := by
  have hl2 : ((cs.length : Int) == (rs.length : Int)) = true := by simp; omega
  have hp : (Pt.put call sub w none (.v 2)) = fun c sl h => R.ok (sl.set 2 (some c)) h := by funext c sl h; rfl
  rw [hp] at e
  rcases hr with ⟨sl, h', rfl⟩ | ⟨c, h', rfl⟩ <;> simp [LO, Ss.ev, S.ev, Hs.ev, E.ev, Es.ev, T.ev, Pt.put, Pts.put, Pts.len, Es.len, Oe.ev, It.ev, bind_ok, bind_err, bind_bad, th_ok, th_err, th_bad, nxth, retth, errth, badth, noerr_ok, fin_nx, fin_ret, fin_err, tidy_same, tidyX_same, List.getElem?_cons_zero, List.getElem?_cons_succ, List.set_cons_zero, List.set_cons_succ, isi_t, tr_b, len_t, ne_i', hl2, e]
theorem h14_n {lo : Ss} {x : C} (hx : isiC x .tuple = false) : Ss.ev call sub w (H14 lo) none [some x, s1, s2] h = .ret (.bl false) h := by
  simp [H14, Ss.ev, S.ev, Hs.ev, E.ev, Es.ev, T.ev, Pt.put, Pts.put, Pts.len, Es.len, Oe.ev, It.ev, bind_ok, bind_err, bind_bad, th_ok, th_err, th_bad, nxth, retth, errth, badth, noerr_ok, fin_nx, fin_ret, fin_err, tidy_same, tidyX_same, List.getElem?_cons_zero, List.getElem?_cons_succ, List.set_cons_zero, List.set_cons_succ, hx, tr_b]
theorem h14_l {lo : Ss} {cs : List C} (hl : ¬ (1 ≤ cs.length ∧ cs.length ≤ 12)) : Ss.ev call sub w (H14 lo) none [some (.tup cs), s1, s2] h = .ret (.bl false) h := by
  have e : inRngB true (.int (cs.length : Int)) [.int 1, .int 13] h = .ok true h := by
    show R.ok (!(decide ((1 : Int) ≤ cs.length ∧ (cs.length : Int) < 13))) h = _
    rw [decide_eq_false (by omega)]
    rfl
  simp [H14, Ss.ev, S.ev, Hs.ev, E.ev, Es.ev, T.ev, Pt.put, Pts.put, Pts.len, Es.len, Oe.ev, It.ev, bind_ok, bind_err, bind_bad, th_ok, th_err, th_bad, nxth, retth, errth, badth, noerr_ok, fin_nx, fin_ret, fin_err, tidy_same, tidyX_same, List.getElem?_cons_zero, List.getElem?_cons_succ, List.set_cons_zero, List.set_cons_succ, isi_t, tr_b, len_t, e]
theorem h14_t {lo : Ss} {cs : List C} (hl : 1 ≤ cs.length ∧ cs.length ≤ 12) {sl : Sl} (el : forF (.tre cs) (Pt.put call sub w none (.v 1)) (Ss.ev call sub w lo none) w 0 [some (.tup cs), s1, s2] h = .nx sl h) : Ss.ev call sub w (H14 lo) none [some (.tup cs), s1, s2] h = .ret (.bl true) h := by
  have e : inRngB true (.int (cs.length : Int)) [.int 1, .int 13] h = .ok false h := by
    show R.ok (!(decide ((1 : Int) ≤ cs.length ∧ (cs.length : Int) < 13))) h = _
    rw [decide_eq_true (by omega)]
    rfl
  have hp : (Pt.put call sub w none (.v 1)) = fun c sl h => R.ok (sl.set 1 (some c)) h := by funext c sl h; rfl
  rw [hp] at el
  simp [H14, Ss.ev, S.ev, Hs.ev, E.ev, Es.ev, T.ev, Pt.put, Pts.put, Pts.len, Es.len, Oe.ev, It.ev, bind_ok, bind_err, bind_bad, th_ok, th_err, th_bad, nxth, retth, errth, badth, noerr_ok, fin_nx, fin_ret, fin_err, tidy_same, tidyX_same, List.getElem?_cons_zero, List.getElem?_cons_succ, List.set_cons_zero, List.set_cons_succ, isi_t, tr_b, len_t, e, el]
theorem h14_f {lo : Ss} {cs : List C} (hl : 1 ≤ cs.length ∧ cs.length ≤ 12) (el : forF (.tre cs) (Pt.put call sub w none (.v 1)) (Ss.ev call sub w lo none) w 0 [some (.tup cs), s1, s2] h = .ret (.bl false) h) : Ss.ev call sub w (H14 lo) none [some (.tup cs), s1, s2] h = .ret (.bl false) h := by
  have e : inRngB true (.int (cs.length : Int)) [.int 1, .int 13] h = .ok false h := by
    show R.ok (!(decide ((1 : Int) ≤ cs.length ∧ (cs.length : Int) < 13))) h = _
    rw [decide_eq_true (by omega)]
    rfl
  have hp : (Pt.put call sub w none (.v 1)) = fun c sl h => R.ok (sl.set 1 (some c)) h := by funext c sl h; rfl
  rw [hp] at el
  simp [H14, Ss.ev, S.ev, Hs.ev, E.ev, Es.ev, T.ev, Pt.put, Pts.put, Pts.len, Es.len, Oe.ev, It.ev, bind_ok, bind_err, bind_bad, th_ok, th_err, th_bad, nxth, retth, errth, badth, noerr_ok, fin_nx, fin_ret, fin_err, tidy_same, tidyX_same, List.getElem?_cons_zero, List.getElem?_cons_succ, List.set_cons_zero, List.set_cons_succ, isi_t, tr_b, len_t, e, el]
end
theorem row_body {d : Nat} (h : Hc) {rs : List C} (hw : rs.length ≤ 12) (c : C) (s2 : Option C) :
    (∃ z, Ss.ev (Rn (d + 2)) sub WH (LO LI) none [some (.tup rs), some c, s2] h = .nx [some (.tup rs), some c, z] h ∧ rowB rs.length c = true) ∨ (Ss.ev (Rn (d + 2)) sub WH (LO LI) none [some (.tup rs), some c, s2] h = .ret (.bl false) h ∧ rowB rs.length c = false) := by
  cases c with
  | tup cs =>
    show (∃ z, _ ∧ (decide (cs.length = rs.length) && cs.all tieB) = true) ∨ (_ ∧ (decide (cs.length = rs.length) && cs.all tieB) = false)
    by_cases hl : cs.length = rs.length
    · rw [decide_eq_true hl]
      rcases row_loop (call := Rn (d + 2)) (sub := sub) (w := WH) (h := h) (cs := cs) (by unfold WH; exact Nat.lt_of_le_of_lt (show cs.length ≤ 12 by omega) (by decide)) (fun c => r11 d h c 0 1000000) (some (.tup rs)) (some (.tup cs)) s2 with ⟨z, q1, q2⟩ | ⟨q1, q2⟩
      · exact .inl ⟨z, lo_t hl q1 (.inl ⟨_, _, rfl⟩), by rw [q2]; rfl⟩
      · exact .inr ⟨lo_t hl q1 (.inr ⟨_, _, rfl⟩), by rw [q2]; rfl⟩
    · exact .inr ⟨lo_l hl, by rw [decide_eq_false hl]; rfl⟩
  | _ => exact .inr ⟨lo_n rfl, rfl⟩
theorem tab_loop {d : Nat} (h : Hc) {cs : List C} (hw : cs.length ≤ 12) (s1 s2 : Option C) :
    (∃ sl, forF (.tre cs) (Pt.put (Rn (d + 2)) sub WH none (.v 1)) (Ss.ev (Rn (d + 2)) sub WH (LO LI) none) WH 0 [some (.tup cs), s1, s2] h = .nx sl h ∧ cs.all (rowB cs.length) = true) ∨ (forF (.tre cs) (Pt.put (Rn (d + 2)) sub WH none (.v 1)) (Ss.ev (Rn (d + 2)) sub WH (LO LI) none) WH 0 [some (.tup cs), s1, s2] h = .ret (.bl false) h ∧ cs.all (rowB cs.length) = false) := by
  rcases forF_ret (it := .tre cs) (n := cs.length) (el := fun i => gC cs i) (g := Pt.put (Rn (d + 2)) sub WH none (.v 1)) (b := Ss.ev (Rn (d + 2)) sub WH (LO LI) none)
    (fun i sl h' => h' = h ∧ ∃ y z, sl = [some (.tup cs), y, z] ∧ ∀ k, k < i → rowB cs.length (gC cs k) = true) (fun i c h' => h' = h ∧ c = .bl false ∧ rowB cs.length (gC cs i) = false) (fun i sl h' _ _ => at_treC cs i h')
    (fun i sl h' ⟨a1, y, z, a2, a3⟩ hi => by
      subst a1 a2
      refine ⟨[some (.tup cs), some (gC cs i), z], h', rfl, ?_⟩
      rcases row_body (d := d) h' hw (gC cs i) z with ⟨z', q1, q2⟩ | ⟨q1, q2⟩
      · refine .inl ⟨_, _, .inl q1, rfl, _, _, rfl, fun k hk => ?_⟩
        by_cases q : k = i
        · subst q; exact q2
        · exact a3 k (by omega)
      · exact .inr ⟨_, _, q1, rfl, rfl, q2⟩) WH 0 [some (.tup cs), s1, s2] h ⟨rfl, _, _, rfl, fun k hk => absurd hk (by omega)⟩ (Nat.zero_le _) (by unfold WH; exact Nat.lt_of_le_of_lt hw (by decide)) with ⟨sl, h', q1, q2, y, z, q3, q4⟩ | ⟨j, c, h', _, q1, q2, q3, q4, q5⟩
  · subst q2
    exact .inl ⟨sl, q1, all_getD.mpr q4⟩
  · subst q3 q4
    refine .inr ⟨q2, ?_⟩
    cases z : cs.all (rowB cs.length)
    · rfl
    · have := all_getD.mp z j q1
      rw [q5] at this
      cases this
theorem r14 (d : Nat) (h : Hc) (x : C) : Rn (d + 3) 14 [x] h = .ok (.bl (tabB x)) h := by
  rw [u14, b14_is]
  cases x with
  | tup cs =>
    show _ = R.ok (C.bl (decide (1 ≤ cs.length ∧ cs.length ≤ 12) && cs.all (rowB cs.length))) h
    by_cases hl : 1 ≤ cs.length ∧ cs.length ≤ 12
    · rw [decide_eq_true hl]
      rcases tab_loop (d := d) h hl.2 none none with ⟨sl, q1, q2⟩ | ⟨q1, q2⟩
      · rw [h14_t hl q1, q2]
        exact tidy_same _ _
      · rw [h14_f hl q1, q2]
        exact tidy_same _ _
    · rw [h14_l hl, decide_eq_false hl]
      exact tidy_same _ _
  | _ =>
    rw [h14_n rfl]
    exact tidy_same _ _
end K39
set_option linter.all false
set_option autoImplicit false
set_option maxRecDepth 100000
set_option maxHeartbeats 16000000
namespace K39
open Sh PySem
variable {h : Hc}
theorem int_i (h : Hc) (i : Int) : bi .int [.int i] h = .ok (.int i) h := rfl
theorem f7 : G 7 = some ⟨4, 2, b7⟩ := rfl
theorem f8 : G 8 = some ⟨3, 2, b8⟩ := rfl
theorem f9 : G 9 = some ⟨2, 2, b9⟩ := rfl
theorem abs_i' (h : Hc) (i : Int) : bi .abs [.int i] h = .ok (.int (if i < 0 then -i else i)) h := rfl
theorem draw_ok : DrawOk G sub WH 8 := by
  intro d h n many p h1 h2
  have hn := p.lt
  obtain ⟨L, e0, p0, p1, rfl, q1, q2⟩ := p
  by_cases z : 0 < p0
  · refine ⟨p0 % many, h.set n [.int (p0 / many), .int p1], Int.emod_nonneg _ (by omega), Int.emod_lt_of_pos _ h1, .inr ⟨_, rfl, _, _, rfl, q1, q2⟩, ?_⟩
    rw [un f8 _ _ _ rfl (of_decide_eq_true rfl)]
    simp [b8, Ss.ev, S.ev, Hs.ev, E.ev, Es.ev, T.ev, Pt.put, Pts.put, Pts.len, Es.len, Oe.ev, It.ev, bind_ok, bind_err, bind_bad, th_ok, th_err, th_bad, nxth, retth, errth, badth, noerr_ok, fin_nx, fin_ret, fin_err, tidy_same, tidyX_same, List.getElem?_cons_zero, List.getElem?_cons_succ, List.set_cons_zero, List.set_cons_succ, itr0 e0, gt_i, z, divmod_int _ _ _ h1 h2, sei0 e0, tidy_len]
  · obtain ⟨f1, f2⟩ := fmod_b (p1 * 40014 + 9343) (by decide : (0 : Int) < 2147483587)
    generalize hr : (p1 * 40014 + 9343).fmod 2147483587 = r at f1 f2
    obtain ⟨f3, f4⟩ := fmod_b (((r * r).fmod 2147483549).fdiv 19) h1
    have e2 : (h.set n [.int p0, .int r])[n]? = some [.int p0, .int r] := List.getElem?_set_self hn
    have m1 := mul_of (i := p1) (j := 40014) (bd_small (by omega) (by omega)) (bd_small (by omega) (by omega)) (by decide) (by decide)
    have m2 := mul_of (i := r) (j := r) (bd_small (by omega) (by omega)) (bd_small (by omega) (by omega)) (by decide) (by decide)
    obtain ⟨g1, g2⟩ := fmod_b (r * r) (by decide : (0 : Int) < 2147483549)
    have dv := div_of (i := (r * r).fmod 2147483549) (j := 19) (b := 80) (by decide) (bd_small (by omega) (by omega)) (by decide)
    have md1 := mod_of (i := p1 * 40014 + 9343) (j := 2147483587) (by decide)
    have md2 := mod_of (i := r * r) (j := 2147483549) (by decide)
    have md3 := mod_of (i := ((r * r).fmod 2147483549).fdiv 19) (j := many) (by omega)
    rw [hr] at md1
    refine ⟨_, h.set n [.int p0, .int r], f3, f4, .inr ⟨_, rfl, _, _, rfl, f1, by omega⟩, ?_⟩
    rw [un f8 _ _ _ rfl (of_decide_eq_true rfl)]
    simp [b8, Ss.ev, S.ev, Hs.ev, E.ev, Es.ev, T.ev, Pt.put, Pts.put, Pts.len, Es.len, Oe.ev, It.ev, bind_ok, bind_err, bind_bad, th_ok, th_err, th_bad, nxth, retth, errth, badth, noerr_ok, fin_nx, fin_ret, fin_err, tidy_same, tidyX_same, List.getElem?_cons_zero, List.getElem?_cons_succ, List.set_cons_zero, List.set_cons_succ, itr0 e0, itr1 e0, itr1 e2, gt_i, z, sei1 e0, tidy_len, bin_mul', add_int, bin_mod', bin_div', m1, m2, dv, md1, md2, md3, int_i]
theorem pot_run (d : Nat) (h : Hc) (ns : List Int) (cl : ClH h) : ∃ n h', PotAt h' n ∧ ClH h' ∧ Rn (d + 1) 7 [.frz (iZ ns), .int 0] h = .ok (.ref n) h' := by
  have key : ∀ (cell : Int), ∃ s : Int, (cell.fmod 2147483549 * 40127 + 0 + 67).fmod 2147483563 + 1 = s ∧ Pot [.int (if cell - 1000000000000000000 > 0 then cell - 1000000000000000000 else 0), .int s] := fun cell => by
    obtain ⟨f3, f4⟩ := fmod_b (cell.fmod 2147483549 * 40127 + 0 + 67) (by decide : (0 : Int) < 2147483563)
    exact ⟨_, rfl, _, _, rfl, by omega, by omega⟩
  have bounds : ∀ cell : Int, Bd 80 (cell.fmod 2147483549) := fun cell => by
    obtain ⟨f1, f2⟩ := fmod_b cell (by decide : (0 : Int) < 2147483549)
    exact bd_small (by omega) (by omega)
  have m2 : ∀ h : Hc, mulC (.int 9343) (.int 0) h = .ok (.int 0) h := fun h => mul_of (i := 9343) (j := 0) (bd_small (by omega) (by omega)) (bd_small (by omega) (by omega)) (by decide) (by decide) h
  have m3 : ∀ h : Hc, mulC (.int 701) (.int 0) h = .ok (.int 0) h := fun h => mul_of (i := 701) (j := 0) (bd_small (by omega) (by omega)) (bd_small (by omega) (by omega)) (by decide) (by decide) h
  have md1 := fun (i : Int) => mod_of (i := i) (j := 2147483549) (by decide)
  have md2 := fun (i : Int) => mod_of (i := i) (j := 2147483563) (by decide)
  have m1 := fun (i : Int) => mul_of (j := 40127) (bounds i) (bd_small (by omega) (by omega)) (by decide) (by decide)
  rw [Rn, un f7 _ _ _ rfl (of_decide_eq_true rfl)]
  simp only [b7, List.map_cons, List.map_nil, List.replicate, List.cons_append, List.nil_append, Nat.reduceSub]
  by_cases z : 0 < ns.length
  · have zi : ((0 : Int) < ((iZ ns).length : Int)) := by rw [iZ_len]; omega
    have e1 : item (.frz (iZ ns)) (.int 0) h = .ok (.int (gI ns 0)) h := item_iZ 0 rfl z
    generalize hc : (if gI ns 0 < 0 then -gI ns 0 else gI ns 0) = cell
    obtain ⟨s, s3, s1⟩ := key cell
    refine ⟨h.length, h ++ [[.int (if cell - 1000000000000000000 > 0 then cell - 1000000000000000000 else 0), .int s]], ⟨_, last_get _ _, s1⟩, cl_push cl (s1.under _), ?_⟩
    simp only [Ss.ev, S.ev, Hs.ev, E.ev, Es.ev, T.ev, Pt.put, Pts.put, Pts.len, Es.len, Oe.ev, It.ev, bind_ok, bind_err, bind_bad, th_ok, th_err, th_bad, nxth, retth, errth, badth, noerr_ok, fin_nx, fin_ret, fin_err, tidy_same, tidyX_same, List.getElem?_cons_zero, List.getElem?_cons_succ, List.set_cons_zero, List.set_cons_succ, lt_i, len_frz, zi, decide_true, if_true, e1, abs_i', hc, bin_mod', md1, bin_mul', m1, m2, add_int, md2, pow18, sub_int, max_int, int_i, s3]
    simp only [len2, if_true, Ss.ev, S.ev, Hs.ev, E.ev, Es.ev, T.ev, Pt.put, Pts.put, Pts.len, Es.len, Oe.ev, It.ev, bind_ok, bind_err, bind_bad, th_ok, th_err, th_bad, nxth, retth, errth, badth, noerr_ok, fin_nx, fin_ret, fin_err, tidy_same, tidyX_same, List.getElem?_cons_zero, List.getElem?_cons_succ, List.set_cons_zero, List.set_cons_succ]
    exact tidy_ref (Nat.le_refl _)
  · have zi : ¬ ((0 : Int) < ((iZ ns).length : Int)) := by rw [iZ_len]; omega
    obtain ⟨s, s3, s1⟩ := key 139
    refine ⟨h.length, h ++ [[.int (if (139 : Int) - 1000000000000000000 > 0 then 139 - 1000000000000000000 else 0), .int s]], ⟨_, last_get _ _, s1⟩, cl_push cl (s1.under _), ?_⟩
    simp only [Ss.ev, S.ev, Hs.ev, E.ev, Es.ev, T.ev, Pt.put, Pts.put, Pts.len, Es.len, Oe.ev, It.ev, bind_ok, bind_err, bind_bad, th_ok, th_err, th_bad, nxth, retth, errth, badth, noerr_ok, fin_nx, fin_ret, fin_err, tidy_same, tidyX_same, List.getElem?_cons_zero, List.getElem?_cons_succ, List.set_cons_zero, List.set_cons_succ, lt_i, len_frz, zi, decide_false, if_false, Bool.false_eq_true, bin_mul', m3, add_int, Int.zero_add, bin_mod', md1, m1, m2, md2, pow18, sub_int, max_int, int_i, s3]
    simp only [len2, if_true, Ss.ev, S.ev, Hs.ev, E.ev, Es.ev, T.ev, Pt.put, Pts.put, Pts.len, Es.len, Oe.ev, It.ev, bind_ok, bind_err, bind_bad, th_ok, th_err, th_bad, nxth, retth, errth, badth, noerr_ok, fin_nx, fin_ret, fin_err, tidy_same, tidyX_same, List.getElem?_cons_zero, List.getElem?_cons_succ, List.set_cons_zero, List.set_cons_succ]
    exact tidy_ref (Nat.le_refl _)
theorem pick_run (d : Nat) {p q : Nat} {xs : List C} (hp : PotAt h p) (hq : h[q]? = some xs) (hne : q ≠ p) (h0 : 0 < xs.length) (h1 : xs.length < 1000) : ∃ (i : Nat) (c : C) (h' : Hc), xs[i]? = some c ∧ Nx p h h' ∧ Rn (d + 2) 9 [.ref p, .ref q] h = .ok c h' := by
  obtain ⟨dg, h', a1, a2, a3, a4⟩ := draw_ok d h p (xs.length : Int) hp (by omega) (by omega)
  have a5 : xs[dg.toNat]? = some (xs[dg.toNat]'(by omega)) := List.getElem?_eq_getElem _
  refine ⟨dg.toNat, xs[dg.toNat]'(by omega), h', a5, a3, ?_⟩
  have e1 : bi .len [.ref q] h = .ok (.int xs.length) h := len_of (seq_ref hq)
  have e2 := item_refN (i := dg) (j := dg.toNat) (by rw [a3.get hne]; exact hq) (by omega) a5
  rw [Rn, un f9 _ _ _ rfl (of_decide_eq_true rfl)]
  simp only [b9, Ss.ev, S.ev, Hs.ev, E.ev, Es.ev, T.ev, Pt.put, Pts.put, Pts.len, Es.len, Oe.ev, It.ev, bind_ok, bind_err, bind_bad, th_ok, th_err, th_bad, nxth, retth, errth, badth, noerr_ok, fin_nx, fin_ret, fin_err, tidy_same, tidyX_same, List.getElem?_cons_zero, List.getElem?_cons_succ, List.set_cons_zero, List.set_cons_succ, List.map_cons, List.map_nil, List.replicate, List.cons_append, List.nil_append, Nat.reduceSub, e1, a4, e2]
  exact tidy_len a3.len _
end K39
set_option linter.all false
set_option autoImplicit false
set_option maxRecDepth 100000
set_option maxHeartbeats 16000000
namespace K39
open Sh PySem
variable {h : Hc} {Q : Nat → Prop}
/-! ### stores that are walked through, some cells of them (Q) written -/
structure Pq (Q : Nat → Prop) (h : Hc) (p : Nat) : Prop where
  pot : PotAt h p
  q : Q p
  lt' : ∀ m, Q m → m < h.length
theorem Pq.lt {p : Nat} (a : Pq Q h p) : p < h.length := a.pot.lt
theorem Pq.nx {p : Nat} {h' : Hc} (a : Pq Q h p) (x : Nx p h h') : Pq Q h' p := ⟨x.pot a.pot, a.q, fun m hm => by rw [x.len]; exact a.lt' m hm⟩
theorem Pq.app {p : Nat} (a : Pq Q h p) (t : Hc) : Pq Q (h ++ t) p := ⟨a.pot.app t, a.q, fun m hm => by have := a.lt' m hm; rw [List.length_append]; omega⟩
structure Stq (Q : Nat → Prop) (p : Nat) (h h' : Hc) : Prop where
  len : h.length ≤ h'.length
  keep : ∀ m, m < h.length → ¬ Q m → h'[m]? = h[m]?
  pot : Pq Q h' p
  cl : ClH h'
theorem Stq.trans {p : Nat} {h h' h2 : Hc} (a : Stq Q p h h') (b : Stq Q p h' h2) : Stq Q p h h2 := ⟨Nat.le_trans a.len b.len, fun m hm hp => by rw [b.keep m (Nat.lt_of_lt_of_le hm a.len) hp, a.keep m hm hp], b.pot, b.cl⟩
theorem Stq.refl {p : Nat} {h : Hc} (a : Pq Q h p) (b : ClH h) : Stq Q p h h := ⟨Nat.le_refl _, fun _ _ _ => rfl, a, b⟩
theorem Stq.nx {p : Nat} {h h' : Hc} (a : Pq Q h p) (b : ClH h) (x : Nx p h h') : Stq Q p h h' := ⟨Nat.le_of_eq x.len.symm, fun m _ hm => x.get (fun e => hm (by rw [e]; exact a.q)), a.nx x, x.closed b⟩
theorem Stq.push {p : Nat} {h h' : Hc} (s : Stq Q p h h') {xs : List C} (hx : C.unders (h'.length + 1) xs = true) : Stq Q p h (h' ++ [xs]) :=
  ⟨Nat.le_trans s.len (by simp), fun m hm hp => by rw [List.getElem?_append_left (Nat.lt_of_lt_of_le hm s.len), s.keep m hm hp], s.pot.app _, cl_push s.cl hx⟩
theorem Stq.dr {p : Nat} {h h' h2 : Hc} (s : Stq Q p h h') (x : Nx p h' h2) : Stq Q p h h2 := s.trans (.nx s.pot s.cl x)
/-! ### values drawn, with what they weigh -/
structure Gd (W : Nat) (d : PyData) : Prop where
  s : d.showable = true
  n : d.hasDict = false
  w : d.weight ≤ W
structure Gds (W : Nat) (ds : List PyData) : Prop where
  s : PyData.showableAll ds = true
  n : PyData.hasDictAll ds = false
  w : PyData.weightAll ds ≤ W
theorem Gds.nil : Gds 0 [] := ⟨rfl, rfl, Nat.le_refl _⟩
theorem Gds.cons {W V : Nat} {d : PyData} {ds : List PyData} (a : Gd W d) (b : Gds V ds) : Gds (W + 1 + V) (d :: ds) := by
  refine ⟨?_, ?_, ?_⟩
  · show (d.showable && PyData.showableAll ds) = true
    rw [a.s, b.s]; rfl
  · show (d.hasDict || PyData.hasDictAll ds) = false
    rw [a.n, b.n]; rfl
  · show d.weight + 1 + PyData.weightAll ds ≤ _
    have := a.w; have := b.w; omega
theorem Gds.split {W : Nat} {d : PyData} {ds : List PyData} (a : Gds W (d :: ds)) : ∃ V, Gd V d ∧ ∃ V2, Gds V2 ds ∧ V + 1 + V2 ≤ W := by
  have s : (d.showable && PyData.showableAll ds) = true := a.s
  have n : (d.hasDict || PyData.hasDictAll ds) = false := a.n
  have w : d.weight + 1 + PyData.weightAll ds ≤ W := a.w
  rw [Bool.and_eq_true] at s
  rw [Bool.or_eq_false_iff] at n
  exact ⟨d.weight, ⟨s.1, n.1, Nat.le_refl _⟩, PyData.weightAll ds, ⟨s.2, n.2, Nat.le_refl _⟩, w⟩
structure VV (Q : Nat → Prop) (p : Nat) (h : Hc) (k W : Nat) (c : C) : Prop where
  dt : ∃ dv, Gd W dv ∧ ∀ h', Stq Q p h h' → Dt h' k c dv
  ok : Ok c = true
  un : ∀ n, h.length ≤ n → C.under n c = true
structure VVs (Q : Nat → Prop) (p : Nat) (h : Hc) (k W : Nat) (cs : List C) : Prop where
  dt : ∃ ds, Gds W ds ∧ ∀ h', Stq Q p h h' → Dts h' k cs ds
  ok : Oks cs = true
  un : ∀ n, h.length ≤ n → C.unders n cs = true
theorem VV.step {p k W : Nat} {h' : Hc} {c : C} (v : VV Q p h k W c) (s : Stq Q p h h') : VV Q p h' k W c := by
  obtain ⟨dv, g, hd⟩ := v.dt
  exact ⟨⟨dv, g, fun h2 s2 => hd h2 (s.trans s2)⟩, v.ok, fun n hn => v.un n (Nat.le_trans s.len hn)⟩
theorem VV.mono {p k W j V : Nat} {c : C} (v : VV Q p h k W c) (hk : k ≤ j) (hw : W ≤ V) : VV Q p h j V c := by
  obtain ⟨dv, g, hd⟩ := v.dt
  exact ⟨⟨dv, ⟨g.s, g.n, Nat.le_trans g.w hw⟩, fun h2 s2 => (hd h2 s2).mono hk⟩, v.ok, v.un⟩
theorem VVs.step {p k W : Nat} {h' : Hc} {cs : List C} (v : VVs Q p h k W cs) (s : Stq Q p h h') : VVs Q p h' k W cs := by
  obtain ⟨dv, g, hd⟩ := v.dt
  exact ⟨⟨dv, g, fun h2 s2 => hd h2 (s.trans s2)⟩, v.ok, fun n hn => v.un n (Nat.le_trans s.len hn)⟩
theorem Dts.mono {k j : Nat} {cs : List C} {ds : List PyData} (a : Dts h k cs ds) (hk : k ≤ j) : Dts h j cs ds := ⟨fun m hm => a.d m (by omega), a.l, Nat.le_trans a.e hk⟩
theorem VVs.mono {p k W j V : Nat} {cs : List C} (v : VVs Q p h k W cs) (hk : k ≤ j) (hw : W ≤ V) : VVs Q p h j V cs := by
  obtain ⟨dv, g, hd⟩ := v.dt
  exact ⟨⟨dv, ⟨g.s, g.n, Nat.le_trans g.w hw⟩, fun h2 s2 => (hd h2 s2).mono hk⟩, v.ok, v.un⟩
theorem VV.str {p k : Nat} {z : Str} (hz : SS.contains z = true) : VV Q p h k z.cps.size (.str z) := ⟨⟨_, ⟨rfl, rfl, Nat.le_refl _⟩, fun _ _ => .str hz k⟩, by simpa [Ok] using hz, fun _ _ => rfl⟩
theorem VV.non {p k : Nat} : VV Q p h k 0 .non := ⟨⟨_, ⟨rfl, rfl, Nat.le_refl _⟩, fun _ _ => .non k⟩, rfl, fun _ _ => rfl⟩
theorem VV.bl {p k : Nat} (b : Bool) : VV Q p h k 0 (.bl b) := ⟨⟨_, ⟨rfl, rfl, Nat.le_refl _⟩, fun _ _ => .bl b k⟩, rfl, fun _ _ => rfl⟩
theorem VV.int {p k W : Nat} {i : Int} (hi : i.natAbs < 2 ^ W) (hW : W ≤ 1900) : VV Q p h k W (.int i) := by
  refine ⟨⟨_, ⟨?_, rfl, ?_⟩, fun _ _ => .int i k⟩, rfl, fun _ _ => rfl⟩
  · show decide (i.natAbs.log2 < 1920) = true
    refine decide_eq_true ?_
    by_cases e : i.natAbs = 0
    · rw [e]; decide
    · have := (Nat.log2_lt e).mpr hi
      omega
  · show (if i == 0 then 0 else i.natAbs.log2 + 1) ≤ W
    by_cases e : i.natAbs = 0
    · have : i = 0 := by omega
      subst this
      exact Nat.zero_le _
    · have := (Nat.log2_lt e).mpr hi
      split <;> omega
theorem VVs.nil {p k : Nat} : VVs Q p h k 0 [] := ⟨⟨[], .nil, fun _ _ => .nil k⟩, rfl, fun _ _ => rfl⟩
theorem VVs.cons {p k W V : Nat} {c : C} {cs : List C} (a : VV Q p h k W c) (b : VVs Q p h k V cs) : VVs Q p h k (W + 1 + V) (c :: cs) := by
  obtain ⟨dv, g1, e1⟩ := a.dt
  obtain ⟨ds, g2, e2⟩ := b.dt
  refine ⟨⟨dv :: ds, Gds.cons g1 g2, fun h' s => Dts.cons (e1 h' s) (e2 h' s)⟩, ?_, fun n hn => ?_⟩
  · rw [Oks, a.ok, b.ok]; rfl
  · show (C.under n c && C.unders n cs) = true
    rw [a.un n hn, b.un n hn]; rfl
theorem VVs.split {p k W : Nat} {c : C} {cs : List C} (hp : Pq Q h p) (cl : ClH h) (v : VVs Q p h k W (c :: cs)) : ∃ V V2, VV Q p h k V c ∧ VVs Q p h k V2 cs ∧ V + 1 + V2 ≤ W := by
  obtain ⟨es, g, e⟩ := v.dt
  obtain ⟨d, ds, rfl, _, _⟩ := (e h (.refl hp cl)).split
  obtain ⟨V, g1, V2, g2, hw⟩ := g.split
  have ok : (Ok c && Oks cs) = true := v.ok
  rw [Bool.and_eq_true] at ok
  refine ⟨V, V2, ⟨⟨d, g1, fun h' s => ?_⟩, ok.1, fun n hn => (and2 (v.un n hn)).1⟩, ⟨⟨ds, g2, fun h' s => ?_⟩, ok.2, fun n hn => (and2 (v.un n hn)).2⟩, hw⟩
  · obtain ⟨d', ds', e1, e2, e3⟩ := (e h' s).split
    cases e1; exact e2
  · obtain ⟨d', ds', e1, e2, e3⟩ := (e h' s).split
    cases e1; exact e3
theorem VVs.app {p k : Nat} (hp : Pq Q h p) (cl : ClH h) : ∀ {xs ys : List C} {W V : Nat}, VVs Q p h k W xs → VVs Q p h k V ys → VVs Q p h k (W + V) (xs ++ ys)
  | [], ys, W, V, _, b => b.mono (Nat.le_refl _) (by omega)
  | x :: xs, ys, W, V, a, b => by
    obtain ⟨V1, V2, a1, a2, hw⟩ := a.split hp cl
    exact (VVs.cons a1 (VVs.app hp cl a2 b)).mono (Nat.le_refl _) (by omega)
theorem VVs.take {p k : Nat} (hp : Pq Q h p) (cl : ClH h) : ∀ {xs : List C} {W : Nat} (n : Nat), VVs Q p h k W xs → VVs Q p h k W (xs.take n)
  | _, W, 0, _ => VVs.nil.mono (Nat.le_refl _) (Nat.zero_le _)
  | [], W, n + 1, _ => VVs.nil.mono (Nat.le_refl _) (Nat.zero_le _)
  | x :: xs, W, n + 1, a => by
    obtain ⟨V1, V2, a1, a2, hw⟩ := a.split hp cl
    exact (VVs.cons a1 (VVs.take hp cl n a2)).mono (Nat.le_refl _) (by omega)
theorem VVs.drop {p k : Nat} (hp : Pq Q h p) (cl : ClH h) : ∀ {xs : List C} {W : Nat} (n : Nat), VVs Q p h k W xs → VVs Q p h k W (xs.drop n)
  | _, W, 0, a => a
  | [], W, n + 1, _ => VVs.nil.mono (Nat.le_refl _) (Nat.zero_le _)
  | x :: xs, W, n + 1, a => by
    obtain ⟨V1, V2, a1, a2, hw⟩ := a.split hp cl
    exact (VVs.drop hp cl n a2).mono (Nat.le_refl _) (by omega)
theorem VVs.get {p k : Nat} (hp : Pq Q h p) (cl : ClH h) : ∀ {xs : List C} {W : Nat}, VVs Q p h k W xs → ∀ c ∈ xs, VV Q p h k W c
  | x :: xs, W, a, c, hc => by
    obtain ⟨V1, V2, a1, a2, hw⟩ := a.split hp cl
    rcases List.mem_cons.mp hc with rfl | hc
    · exact a1.mono (Nat.le_refl _) (by omega)
    · exact (VVs.get hp cl a2 c hc).mono (Nat.le_refl _) (by omega)
theorem VVs.tup {p k W : Nat} {cs : List C} (hl : cs.length ≤ 1000) (v : VVs Q p h k W cs) : VV Q p h (k + 1) W (.tup cs) := by
  obtain ⟨ds, g, e⟩ := v.dt
  refine ⟨⟨.tuple ds, ⟨g.s, g.n, g.w⟩, fun h' s => (e h' s).tup⟩, ?_, v.un⟩
  rw [Ok, decide_eq_true hl, v.ok]; rfl
theorem VVs.ref {p k W n : Nat} {cs : List C} (hn : h[n]? = some cs) (hp : ¬ Q n) (v : VVs Q p h k W cs) : VV Q p h (k + 1) W (.ref n) := by
  obtain ⟨ds, g, e⟩ := v.dt
  have hlt := (List.getElem?_eq_some_iff.mp hn).1
  exact ⟨⟨.list ds, ⟨g.s, g.n, g.w⟩, fun h' s => (e h' s).lst (by rw [s.keep n hlt hp]; exact hn)⟩, rfl, fun m hm => decide_eq_true (Nat.lt_of_lt_of_le hlt hm)⟩
theorem VV.items {p k W : Nat} {cs : List C} (hp : Pq Q h p) (cl : ClH h) (v : VV Q p h k W (.tup cs)) : VVs Q p h k W cs := by
  obtain ⟨dv, g, e⟩ := v.dt
  obtain ⟨ds, rfl, _⟩ := (e h (.refl hp cl)).items
  refine ⟨⟨ds, ⟨g.s, g.n, g.w⟩, fun h' s => ?_⟩, (ok_tup v.ok).2, v.un⟩
  obtain ⟨ds', e1, e2⟩ := (e h' s).items
  cases e1; exact e2
/-- a value told behind h -/
structure Rs (Q : Nat → Prop) (p : Nat) (h : Hc) (k W : Nat) (c : C) (h' : Hc) : Prop where
  s : Stq Q p h h'
  v : VV Q p h' k W c
  o : C.under h.length c = true → VV Q p h k W c
theorem Rs.old {p k W : Nat} {h' : Hc} {c : C} (s : Stq Q p h h') (v : VV Q p h k W c) : Rs Q p h k W c h' := ⟨s, v.step s, fun _ => v⟩
theorem Rs.then {p k W : Nat} {h' h2 : Hc} {c : C} (r : Rs Q p h k W c h') (s : Stq Q p h' h2) : Rs Q p h k W c h2 := ⟨r.s.trans s, r.v.step s, r.o⟩
theorem Rs.mono {p k W j V : Nat} {h' : Hc} {c : C} (r : Rs Q p h k W c h') (hk : k ≤ j) (hw : W ≤ V) : Rs Q p h j V c h' := ⟨r.s, r.v.mono hk hw, fun u => (r.o u).mono hk hw⟩
theorem stp_take {p : Nat} {h' : Hc} (hp : Pq Q h p) (s : Stq Q p h h') (hc : (h'.take h.length).all (C.unders h.length) = true) : Stq Q p h (h'.take h.length) := by
  have hl : (h'.take h.length).length = h.length := by rw [List.length_take, Nat.min_eq_left s.len]
  refine ⟨Nat.le_of_eq hl.symm, fun m hm hne => by rw [List.getElem?_take, if_pos hm]; exact s.keep m hm hne, ⟨?_, hp.q, fun m hm => by rw [hl]; exact hp.lt' m hm⟩, ?_⟩
  · obtain ⟨L, e, q⟩ := s.pot.pot
    exact ⟨L, by rw [List.getElem?_take, if_pos hp.lt]; exact e, q⟩
  · unfold ClH
    rw [hl]; exact hc
theorem tidyR {p k W : Nat} {h' : Hc} {c : C} (hp : Pq Q h p) (r : Rs Q p h k W c h') : ∃ h2, tidy h.length c h' = .ok c h2 ∧ Rs Q p h k W c h2 := by
  unfold tidy
  by_cases z : (C.under h.length c && (h'.take h.length).all (C.unders h.length)) = true
  · rw [if_pos z]
    obtain ⟨z1, z2⟩ := and2 z
    exact ⟨_, rfl, .old (stp_take hp r.s z2) (r.o z1)⟩
  · rw [if_neg z]
    exact ⟨_, rfl, r⟩
theorem Nx.back {p : Nat} {h' : Hc} (a : Pq Q h p) (b : ClH h) (x : Nx p h h') : Stq Q p h' h :=
  ⟨Nat.le_of_eq x.len, fun m _ hm => (x.get (fun e => hm (by rw [e]; exact a.q))).symm, a, b⟩
theorem Rs.nx {p k W : Nat} {h1 h2 : Hc} {c : C} (a : Pq Q h p) (b : ClH h) (x : Nx p h h1) (r : Rs Q p h1 k W c h2) : Rs Q p h k W c h2 :=
  ⟨(Stq.nx a b x).trans r.s, r.v, fun u => (r.o (by rw [x.len]; exact u)).step (Nx.back a b x)⟩
end K39
set_option linter.all false
set_option autoImplicit false
set_option maxRecDepth 100000
set_option maxHeartbeats 16000000
namespace K39
open Sh PySem
variable {h : Hc} {p : Nat} {Q : Nat → Prop}
theorem pick_new (d : Nat) (hp : Pq Q h p) (cl : ClH h) {xs : List C} (hx : C.unders (h.length + 1) xs = true) (h0 : 0 < xs.length) (h1 : xs.length < 1000) : ∃ c h', c ∈ xs ∧ Nx p (h ++ [xs]) h' ∧ Stq Q p h h' ∧ Rn (d + 2) 9 [.ref p, .ref h.length] (h ++ [xs]) = .ok c h' := by
  obtain ⟨i, c, h', e1, e2, e3⟩ := pick_run d (h := h ++ [xs]) (hp.pot.app [xs]) (last_get _ _) (Nat.ne_of_gt hp.lt) h0 h1
  exact ⟨c, h', List.mem_of_getElem? e1, e2, ((Stq.refl hp cl).push hx).dr e2, e3⟩
theorem draw2 (d : Nat) (hp : PotAt h p) (many : Int) (h1 : 0 < many) (h2 : many < 1000000000) : ∃ (j : Nat) (h' : Hc), (j : Int) < many ∧ Nx p h h' ∧ Rn (d + 1) 8 [.ref p, .int many] h = .ok (.int (j : Int)) h' := by
  obtain ⟨dg, h', a1, a2, a3, a4⟩ := draw_ok d h p many hp h1 h2
  refine ⟨dg.toNat, h', by omega, a3, ?_⟩
  rw [show ((dg.toNat : Nat) : Int) = dg by omega]
  exact a4
theorem draw2q (d : Nat) (hp : Pq Q h p) (many : Int) (h1 : 0 < many) (h2 : many < 1000000000) : ∃ (j : Nat) (h' : Hc), (j : Int) < many ∧ Nx p h h' ∧ Rn (d + 1) 8 [.ref p, .int many] h = .ok (.int (j : Int)) h' := draw2 d hp.pot many h1 h2
/-! ### what is odd -/
structure Odd (Q : Nat → Prop) (p : Nat) (h : Hc) (c : C) (h' : Hc) : Prop where
  s : Stq Q p h h'
  v : (∀ hh, VV Q p hh 1 140 c) ∨ ∃ n, c = .ref n ∧ h.length ≤ n ∧ ¬ Q n ∧ h'[n]? = some []
theorem Odd.rs {c : C} {hb h' : Hc} (o : Odd Q p h c h') (sb : Stq Q p hb h) : Rs Q p hb 1 140 c h' := by
  rcases o.v with v | ⟨n, rfl, h1, h2, h3⟩
  · exact .old (sb.trans o.s) (v _)
  · refine ⟨sb.trans o.s, (VVs.ref h3 h2 (VVs.nil (k := 0))).mono (Nat.le_refl _) (Nat.zero_le _), fun u => ?_⟩
    exact absurd (of_decide_eq_true (show decide (n < hb.length) = true from u)) (by have := sb.len; omega)
theorem tidyO {c : C} {h' : Hc} (hp : Pq Q h p) (o : Odd Q p h c h') : ∃ h2, tidy h.length c h' = .ok c h2 ∧ Odd Q p h c h2 := by
  unfold tidy
  by_cases z : (C.under h.length c && (h'.take h.length).all (C.unders h.length)) = true
  · rw [if_pos z]
    obtain ⟨z1, z2⟩ := and2 z
    refine ⟨_, rfl, stp_take hp o.s z2, ?_⟩
    rcases o.v with v | ⟨n, rfl, h1, h2, h3⟩
    · exact .inl v
    · exact absurd (of_decide_eq_true (show decide (n < h.length) = true from z1)) (by omega)
  · rw [if_neg z]
    exact ⟨_, rfl, o⟩
def L15 : List C := [.non, .bl true, .bl false, .str "machine", .int 0, .int 1, .int (-1), .int 12, .int 13, .int 400, .int 401, .int 1000000, .int 1000001, .int 100000000000000000000000000000000000000, .int 1000000000000000000000000000000000000000]
def LX : List C := [.int 100000000000000000000000000000000000000, .int 1000000000000000000000000000000000000000]
def L5 (n : Nat) : List C := [.tup [], .ref n, .tup [.int 1], .str "", .tup [.int 0, .int 0, .int 1, .int 1]]
def OD (n : Nat) : List C := L15 ++ L5 n
theorem set_mid (h : Hc) (a b c : List C) : (h ++ [a] ++ [b]).set h.length c = h ++ [c] ++ [b] := by
  rw [List.append_assoc, List.append_assoc, List.set_append_right _ _ (Nat.le_refl _), Nat.sub_self]
  rfl
theorem vv_i (i : Int) (hi : i.natAbs < 2 ^ 130) (hh : Hc) : VV Q p hh 1 140 (.int i) := (VV.int (W := 130) hi (by omega)).mono (Nat.le_refl _) (by omega)
theorem vvs_i {k : Nat} (hh : Hc) : ∀ is : List Int, (∀ i ∈ is, i.natAbs < 2 ^ 8) → VVs Q p hh k (is.length * 9) (is.map C.int)
  | [], _ => VVs.nil.mono (Nat.le_refl _) (Nat.zero_le _)
  | i :: is, hi => (VVs.cons (VV.int (W := 8) (hi i (by simp)) (by omega)) (vvs_i hh is fun j hj => hi j (by simp [hj]))).mono (Nat.le_refl _) (by simp; omega)
theorem odd_v {n : Nat} {c : C} (hc : c ∈ OD n) : (∀ hh, VV Q p hh 1 140 c) ∨ c = .ref n := by
  have tp : ∀ is : List Int, is.length ≤ 10 → (∀ i ∈ is, i.natAbs < 2 ^ 8) → ∀ hh, VV Q p hh 1 140 (.tup (is.map C.int)) := fun is hl hi hh => (VVs.tup (by simp; omega) (vvs_i (k := 0) hh is hi)).mono (Nat.le_refl _) (by omega)
  simp only [OD, L15, L5, List.cons_append, List.nil_append, List.mem_cons, List.not_mem_nil, or_false] at hc
  rcases hc with rfl | rfl | rfl | rfl | rfl | rfl | rfl | rfl | rfl | rfl | rfl | rfl | rfl | rfl | rfl | rfl | rfl | rfl | rfl | rfl
  · exact .inl fun _ => VV.non.mono (Nat.le_refl _) (Nat.zero_le _)
  · exact .inl fun _ => (VV.bl true).mono (Nat.le_refl _) (Nat.zero_le _)
  · exact .inl fun _ => (VV.bl false).mono (Nat.le_refl _) (Nat.zero_le _)
  · exact .inl fun _ => (VV.str (by decide +kernel)).mono (Nat.le_refl _) (by decide +kernel)
  · exact .inl (vv_i _ (by decide))
  · exact .inl (vv_i _ (by decide))
  · exact .inl (vv_i _ (by decide))
  · exact .inl (vv_i _ (by decide))
  · exact .inl (vv_i _ (by decide))
  · exact .inl (vv_i _ (by decide))
  · exact .inl (vv_i _ (by decide))
  · exact .inl (vv_i _ (by decide))
  · exact .inl (vv_i _ (by decide))
  · exact .inl (vv_i _ (by decide))
  · exact .inl (vv_i _ (by decide))
  · exact .inl (tp [] (by decide) (by decide))
  · exact .inr rfl
  · exact .inl (tp [1] (by decide) (by decide))
  · exact .inl fun _ => (VV.str (by decide +kernel)).mono (Nat.le_refl _) (by decide +kernel)
  · exact .inl (tp [0, 0, 1, 1] (by decide) (by decide))
def L13 : List C := [.non, .bl true, .bl false, .str "machine", .int 0, .int 1, .int (-1), .int 12, .int 13, .int 400, .int 401, .int 1000000, .int 1000001]
def O1 : E := (.lst (.cons (.con .non) (.cons (.con (.bl true)) (.cons (.con (.bl false)) (.cons (.con (.str "machine")) (.cons (.con (.int 0)) (.cons (.con (.int 1)) (.cons (.neg (.con (.int 1))) (.cons (.con (.int 12)) (.cons (.con (.int 13)) (.cons (.con (.int 400)) (.cons (.con (.int 401)) (.cons (.bin .pow (.con (.int 10)) (.con (.int 6))) (.cons (.bin .add (.bin .pow (.con (.int 10)) (.con (.int 6))) (.con (.int 1))) .nil))))))))))))))
def O2 : E := (.lst (.cons (.bin .pow (.con (.int 10)) (.con (.int 38))) (.cons (.bin .pow (.con (.int 10)) (.con (.int 39))) .nil)))
def O3 : E := (.lst (.cons (.tup .nil) (.cons (.lst .nil) (.cons (.tup (.cons (.con (.int 1)) .nil)) (.cons (.con (.str "")) (.cons (.tup (.cons (.con (.int 0)) (.cons (.con (.int 0)) (.cons (.con (.int 1)) (.cons (.con (.int 1)) .nil))))) .nil))))))
theorem b17_is : b17 = (.cons (.asg (.v 1) O1) (.cons (.ext (.var 1) O2) (.cons (.ret (.call 9 (.cons (.var 0) (.cons (.bin .add (.var 1) O3) .nil)))) .nil))) := rfl
section
variable {call : Nat → List C → Hc → R C} {sub : Nat → Str → Option Bool} {w : Nat} {sl : Sl}
theorem o1_ev (h : Hc) : E.ev call sub w none O1 sl h = .ok (.ref h.length) (h ++ [L13]) := rfl
theorem o2_ev (h : Hc) : E.ev call sub w none O2 sl h = .ok (.ref h.length) (h ++ [LX]) := rfl
theorem o3_ev (h : Hc) : E.ev call sub w none O3 sl h = .ok (.ref (h.length + 1)) (h ++ [[]] ++ [L5 h.length]) := by
  have l0 : (0 : Nat) ≤ lineN := by decide
  have l1 : (1 : Nat) ≤ lineN := by decide
  have l4 : (4 : Nat) ≤ lineN := by decide
  have l5 : (5 : Nat) ≤ lineN := by decide
  simp only [O3, Ss.ev, S.ev, Hs.ev, E.ev, Es.ev, T.ev, Pt.put, Pts.put, Pts.len, Es.len, Oe.ev, It.ev, bind_ok, bind_err, bind_bad, th_ok, th_err, th_bad, nxth, retth, errth, badth, noerr_ok, fin_nx, fin_ret, fin_err, tidy_same, tidyX_same, List.getElem?_cons_zero, List.getElem?_cons_succ, List.set_cons_zero, List.set_cons_succ, List.length_cons, List.length_nil, Nat.reduceAdd, l0, l1, l4, l5, if_true, List.length_append]
  rfl
end
theorem odd_run (d : Nat) (hp : Pq Q h p) (cl : ClH h) : ∃ c h', Odd Q p h c h' ∧ Rn (d + 3) 17 [.ref p] h = .ok c h' := by
  have s1 : Stq Q p h (h ++ [L15]) := (Stq.refl hp cl).push rfl
  have s2 : Stq Q p h (h ++ [L15] ++ [LX]) := s1.push rfl
  have s3 : Stq Q p h (h ++ [L15] ++ [LX] ++ [[]]) := s2.push rfl
  have el : ∀ x : List C, (h ++ [L15] ++ [LX] ++ [x]).length = h.length + 3 := fun x => by simp
  have s4 : Stq Q p h (h ++ [L15] ++ [LX] ++ [[]] ++ [L5 (h.length + 2)]) := s3.push (by
    rw [el]
    simp [L5, C.unders, C.under])
  have uo : C.unders ((h ++ [L15] ++ [LX] ++ [[]] ++ [L5 (h.length + 2)]).length + 1) (OD (h.length + 2)) = true := by
    have e : (h ++ [L15] ++ [LX] ++ [[]] ++ [L5 (h.length + 2)]).length = h.length + 4 := by simp
    rw [e]
    simp [OD, L15, L5, C.unders, C.under]
  have s5 := s4.push uo
  obtain ⟨c, h', hc, nx, _, e⟩ := pick_new d s4.pot s4.cl uo (by simp [OD, L15, L5]) (by simp [OD, L15, L5])
  have st : Stq Q p h h' := s5.dr nx
  have hlt := hp.lt
  have n1 : h.length + 2 ≠ p := by omega
  have n2 : ¬ Q (h.length + 2) := fun z => absurd (hp.lt' _ z) (by omega)
  have g1 : (h ++ [L15] ++ [LX] ++ [[]] ++ [L5 (h.length + 2)] ++ [OD (h.length + 2)])[h.length + 2]? = some [] := by
    rw [List.getElem?_append_left (by simp), List.getElem?_append_left (by simp)]
    have := last_get (h ++ [L15] ++ [LX]) ([] : List C)
    simpa using this
  have r : Odd Q p h c h' := ⟨st, by
    rcases odd_v (p := p) hc with v | rfl
    · exact .inl v
    · exact .inr ⟨_, rfl, by omega, n2, by rw [nx.get n1]; exact g1⟩⟩
  obtain ⟨h2, t, r2⟩ := tidyO hp r
  refine ⟨c, h2, r2, ?_⟩
  have a1 : (h ++ [L13] ++ [LX])[h.length]? = some L13 := by
    rw [List.getElem?_append_left (by simp)]; exact last_get _ _
  have a2 : (h ++ [L13] ++ [LX])[(h ++ [L13]).length]? = some LX := last_get _ _
  have a3 : (h ++ [L13] ++ [LX]).set h.length (L13 ++ LX) = h ++ [L15] ++ [LX] := set_mid _ _ _ _
  have a4 : (h ++ [L15] ++ [LX]).length = h.length + 2 := by simp
  have a5 : binop .add (.ref h.length) (.ref (h.length + 2 + 1)) (h ++ [L15] ++ [LX] ++ [[]] ++ [L5 (h.length + 2)]) = .ok (.ref (h ++ [L15] ++ [LX] ++ [[]] ++ [L5 (h.length + 2)]).length) (h ++ [L15] ++ [LX] ++ [[]] ++ [L5 (h.length + 2)] ++ [OD (h.length + 2)]) := by
    have b1 : (h ++ [L15] ++ [LX] ++ [[]] ++ [L5 (h.length + 2)])[h.length]? = some L15 := by
      rw [List.getElem?_append_left (by simp), List.getElem?_append_left (by simp), List.getElem?_append_left (by simp)]; exact last_get _ _
    have b2 : (h ++ [L15] ++ [LX] ++ [[]] ++ [L5 (h.length + 2)])[h.length + 2 + 1]? = some (L5 (h.length + 2)) := by
      have := last_get (h ++ [L15] ++ [LX] ++ [[]]) (L5 (h.length + 2))
      rw [el] at this
      exact this
    show (match (h ++ [L15] ++ [LX] ++ [[]] ++ [L5 (h.length + 2)])[h.length]?, (h ++ [L15] ++ [LX] ++ [[]] ++ [L5 (h.length + 2)])[h.length + 2 + 1]? with
      | some xs, some ys => if lineN < xs.length + ys.length then R.bad else R.ok (C.ref (h ++ [L15] ++ [LX] ++ [[]] ++ [L5 (h.length + 2)]).length) (h ++ [L15] ++ [LX] ++ [[]] ++ [L5 (h.length + 2)] ++ [xs ++ ys])
      | _, _ => .bad) = _
    rw [b1, b2]
    rfl
  have lx : L13.length + LX.length ≤ lineN := by decide
  have o3 := o3_ev (call := Rn (d + 2)) (sub := sub) (w := WH) (sl := [some (.ref p), some (.ref h.length)]) (h ++ [L15] ++ [LX])
  rw [a4] at o3
  have o1 := o1_ev (call := Rn (d + 2)) (sub := sub) (w := WH) (sl := [some (.ref p), none]) h
  have o2 := o2_ev (call := Rn (d + 2)) (sub := sub) (w := WH) (sl := [some (.ref p), some (.ref h.length)]) (h ++ [L13])
  rw [u17, b17_is]
  generalize O1 = x1 at o1 ⊢
  generalize O2 = x2 at o2 ⊢
  generalize O3 = x3 at o3 ⊢
  generalize WH = w at o1 o2 o3 ⊢
  simp only [Ss.ev, S.ev, Hs.ev, E.ev, Es.ev, T.ev, Pt.put, Pts.put, Pts.len, Es.len, Oe.ev, It.ev, bind_ok, bind_err, bind_bad, th_ok, th_err, th_bad, nxth, retth, errth, badth, noerr_ok, fin_nx, fin_ret, fin_err, tidy_same, tidyX_same, List.getElem?_cons_zero, List.getElem?_cons_succ, List.set_cons_zero, List.set_cons_succ, o1, o2, a1, a2, lx, a3, o3, a5, e, if_true]
  exact t
end K39
set_option linter.all false
set_option autoImplicit false
set_option maxRecDepth 100000
set_option maxHeartbeats 16000000
namespace K39
open Sh PySem
variable {h : Hc} {p : Nat} {Q : Nat → Prop}
theorem wh_big : 1000 < WH := by unfold WH; decide +kernel
theorem nx_split {hx t h' : Hc} (hp : p < hx.length) (x : Nx p (hx ++ t) h') : ∃ hy, Nx p hx hy ∧ h' = hy ++ t := by
  rcases x with rfl | ⟨L, rfl, q⟩
  · exact ⟨hx, .inl rfl, rfl⟩
  · exact ⟨hx.set p L, .inr ⟨L, rfl, q⟩, List.set_append_left _ _ hp⟩
def KES : Es := (.cons (.call 8 (.cons (.var 0) (.cons (.var 1) .nil))) (.cons (.call 8 (.cons (.var 0) (.cons (.var 1) .nil))) (.cons (.bin .add (.con (.int 1)) (.call 8 (.cons (.var 0) (.cons (.con (.int 4)) .nil)))) .nil)))
def KB : Ss := (.kput 4 KES (.var 2) (.bin .add (.con (.int 1)) (.call 8 (.cons (.var 0) (.cons (.con (.int 3)) .nil)))) .nil)
def CE : E := (.bin .add (.var 4) (.tup (.cons (.dget (.var 2) (.var 4)) .nil)))
def RT : E := (.tup (.cons (.con (.str "machine")) (.cons (.var 1) (.cons (.bi .tuple (.cons (.comp CE (.v 4) (.seq (.bi .sorted (.cons (.var 2) .nil))) .yes) .nil)) .nil))))
theorem b15_is : b15 = (.cons (.asg (.tup (.cons (.v 1) (.cons (.v 2) .nil))) (.tup (.cons (.bin .add (.con (.int 1)) (.call 8 (.cons (.var 0) (.cons (.con (.int 3)) .nil)))) (.cons .dnew .nil)))) (.cons (.for_ (.v 3) (.rng1 (.call 8 (.cons (.var 0) (.cons (.con (.int 5)) .nil)))) KB) (.cons (.ret RT) .nil))) := rfl
section
variable {call : Nat → List C → Hc → R C} {sub : Nat → Str → Option Bool} {w : Nat}
theorem kb_ev {n : Nat} {P a b l m : Int} {s3 s4 : Option C} {h1 h2 h3 h4 h5 : Hc} (e1 : call 8 [.ref p, .int P] h = .ok (.int a) h1) (e2 : call 8 [.ref p, .int P] h1 = .ok (.int b) h2) (e3 : call 8 [.ref p, .int 4] h2 = .ok (.int l) h3) (e4 : call 8 [.ref p, .int 3] h3 = .ok (.int m) h4)
    (e5 : dput (.dref n) ([a, b, 1 + l].map .int) (.int (1 + m)) h4 = .ok () h5) :
    Ss.ev call sub w KB none [some (.ref p), some (.int P), some (.dref n), s3, s4] h = .nx [some (.ref p), some (.int P), some (.dref n), s3, some (.tup ([a, b, 1 + l].map .int))] h5 := by
  have l3 : (3 : Nat) ≤ lineN ∧ 4 < 5 := by decide
  simp only [List.map_cons, List.map_nil] at e5
  simp only [KB, KES, Ss.ev, S.ev, Hs.ev, E.ev, Es.ev, T.ev, Pt.put, Pts.put, Pts.len, Es.len, Oe.ev, It.ev, bind_ok, bind_err, bind_bad, th_ok, th_err, th_bad, nxth, retth, errth, badth, noerr_ok, fin_nx, fin_ret, fin_err, tidy_same, tidyX_same, List.getElem?_cons_zero, List.getElem?_cons_succ, List.set_cons_zero, List.set_cons_succ, e1, e2, e3, add_int, List.length_cons, List.length_nil, Nat.reduceAdd, l3, and_self, if_true, e4, e5, List.map_cons, List.map_nil]
theorem ce_ev {s0 s1 s3 : Option C} {n : Nat} {L : List (List Int × C)} {k : List Int} {c : C} (e : h[n]? = some (.bl true :: L.map entC)) (g : gotL k L = some c) (hk : k.length ≤ 10) :
    E.ev call sub w none CE [s0, s1, some (.dref n), s3, some (.tup (k.map .int))] h = .ok (.tup (k.map .int ++ [c])) h := by
  have l1 : (1 : Nat) ≤ lineN := by decide
  have a := add_tup h (k.map .int) [c] (by simp; omega)
  simp only [CE, Ss.ev, S.ev, Hs.ev, E.ev, Es.ev, T.ev, Pt.put, Pts.put, Pts.len, Es.len, Oe.ev, It.ev, bind_ok, bind_err, bind_bad, th_ok, th_err, th_bad, nxth, retth, errth, badth, noerr_ok, fin_nx, fin_ret, fin_err, tidy_same, tidyX_same, List.getElem?_cons_zero, List.getElem?_cons_succ, List.set_cons_zero, List.set_cons_succ, dget_at e g, List.length_cons, List.length_nil, Nat.reduceAdd, l1, if_true, a]
end
/-! ### drawn entries -/
def gRoad (P : Int) (e : List Int × C) : Prop := ∃ a b l m : Int, e = ([a, b, l], .int m) ∧ 0 ≤ a ∧ a ≤ P - 1 ∧ 0 ≤ b ∧ b ≤ P - 1 ∧ 1 ≤ l ∧ l ≤ 4 ∧ 1 ≤ m ∧ m ≤ 3
structure GL (P : Int) (i : Nat) (L : List (List Int × C)) : Prop where
  len : L.length ≤ i
  nd : (L.map (·.1)).Nodup
  g : ∀ e ∈ L, gRoad P e
theorem GL.nil (P : Int) : GL P 0 [] := ⟨Nat.le_refl _, .nil, fun _ h => nomatch h⟩
theorem GL.put {P : Int} {i : Nat} {L : List (List Int × C)} (q : GL P i L) {k : List Int} {c : C} (hg : gRoad P (k, c)) : GL P (i + 1) (putL k c L) :=
  ⟨Nat.le_trans (putL_len k c L) (by have := q.len; omega), putL_nd q.nd, fun e he => by
    rcases putL_mem he with rfl | he
    · exact hg
    · exact q.g e he⟩
theorem GL.keys {P : Int} (hP : P ≤ 100) {i : Nat} {L : List (List Int × C)} (q : GL P i L) : KeysIn 3 (L.map (·.1)) := fun k hk => by
  obtain ⟨e, he, rfl⟩ := List.mem_map.mp hk
  obtain ⟨a, b, l, m, rfl, h1, h2, h3, h4, h5, h6, _⟩ := q.g e he
  have kb : (1000 : Int) < kB := by decide
  refine ⟨rfl, fun x hx => ?_⟩
  simp only [List.mem_cons, List.not_mem_nil, or_false] at hx
  rcases hx with rfl | rfl | rfl <;> omega
/-- a road of a key -/
def rowOf (L : List (List Int × C)) (k : List Int) : C := .tup (k.map .int ++ [(gotL k L).getD .non])
def machOf (P : Int) (L : List (List Int × C)) : C := .tup [.str "machine", .int P, .tup ((sortK (L.map (·.1))).map (rowOf L))]
theorem row_is {P : Int} {i : Nat} {L : List (List Int × C)} (q : GL P i L) {k : List Int} (hk : k ∈ sortK (L.map (·.1))) : ∃ a b l m : Int, k = [a, b, l] ∧ gotL k L = some (.int m) ∧ rowOf L k = .tup [.int a, .int b, .int l, .int m] ∧ 0 ≤ a ∧ a ≤ P - 1 ∧ 0 ≤ b ∧ b ≤ P - 1 ∧ 1 ≤ l ∧ l ≤ 4 ∧ 1 ≤ m ∧ m ≤ 3 := by
  obtain ⟨c, g, hm⟩ := gotL_some ((sortK_perm _).mem_iff.mp hk)
  obtain ⟨a, b, l, m, e, hs⟩ := q.g _ hm
  injection e with e1 e2
  subst e1 e2
  refine ⟨a, b, l, m, rfl, g, ?_, hs⟩
  unfold rowOf
  rw [g]; rfl
theorem too_big : (3 : Int) ≤ TOO - 1 := by unfold TOO; decide
theorem row_road {P : Int} {i : Nat} {L : List (List Int × C)} (q : GL P i L) {k : List Int} (hk : k ∈ sortK (L.map (·.1))) : roadB P (rowOf L k) = true := by
  obtain ⟨a, b, l, m, _, _, e, h1, h2, h3, h4, h5, h6, h7, h8⟩ := row_is q hk
  have t := too_big
  rw [e]
  unfold roadB
  generalize TOO = t' at t
  show (inI 0 (P - 1) (.int a) && inI 0 (P - 1) (.int b) && (inI 1 400 (.int l) && inI 1 (t' - 1) (.int m))) = true
  unfold inI
  simp only [Bool.and_eq_true, decide_eq_true_eq]
  omega
theorem row_k3 {P : Int} {i : Nat} {L : List (List Int × C)} (q : GL P i L) {k : List Int} (hk : k ∈ sortK (L.map (·.1))) : k3 (rowOf L k) = k := by
  obtain ⟨a, b, l, m, rfl, _, e, _⟩ := row_is q hk
  rw [e]; rfl
theorem asc_of {ks : List (List Int)} {f : List Int → C} (hf : ∀ k ∈ ks, k3 (f k) = k) (hp : ks.Pairwise fun a b => ltI a b = true) : ascB (ks.map f) = true := by
  unfold ascB
  refine List.all_eq_true.mpr fun i hi => ?_
  have hi := List.mem_range.mp hi
  rw [List.length_map] at hi
  have g : ∀ j (hj : j < ks.length), gC (ks.map f) j = f ks[j] := fun j hj => by
    have := gC_of (xs := ks.map f) (k := j) (by simpa using hj)
    rw [List.getElem?_map, List.getElem?_eq_getElem hj] at this
    exact (Option.some.inj this).symm
  rw [g i (by omega), g (i + 1) (by omega), hf _ (List.getElem_mem _), hf _ (List.getElem_mem _)]
  exact List.pairwise_iff_getElem.mp hp i (i + 1) (by omega) (by omega) (by omega)
theorem mach_ok {P : Int} {i : Nat} {L : List (List Int × C)} (q : GL P i L) (h1 : 1 ≤ P) (h2 : P ≤ 12) (hi : i ≤ 60) : machB (machOf P L) = true := by
  have kin := q.keys (by omega)
  have ln : ((sortK (L.map (·.1))).map (rowOf L)).length ≤ 60 := by
    rw [List.length_map, (sortK_perm _).length_eq, List.length_map]
    have := q.len; omega
  show ((("machine" : Str) == "machine") && (decide (1 ≤ P) && decide (P ≤ 12) && (decide (((sortK (L.map (·.1))).map (rowOf L)).length ≤ 60) && (((sortK (L.map (·.1))).map (rowOf L)).all (roadB P) && ascB ((sortK (L.map (·.1))).map (rowOf L)))))) = true
  rw [decide_eq_true h1, decide_eq_true h2, decide_eq_true ln, asc_of (fun k hk => row_k3 q hk) (sortK_lt kin q.nd)]
  have al : ((sortK (L.map (·.1))).map (rowOf L)).all (roadB P) = true := List.all_eq_true.mpr fun x hx => by
    obtain ⟨k, hk, rfl⟩ := List.mem_map.mp hx
    exact row_road q hk
  rw [al]
  rfl
theorem vvs_all {k W : Nat} (hh : Hc) : ∀ cs : List C, (∀ c ∈ cs, VV Q p hh k W c) → VVs Q p hh k (cs.length * (W + 1)) cs
  | [], _ => VVs.nil.mono (Nat.le_refl _) (Nat.zero_le _)
  | c :: cs, hc => by
    refine (VVs.cons (hc c (by simp)) (vvs_all hh cs fun x hx => hc x (by simp [hx]))).mono (Nat.le_refl _) ?_
    rw [List.length_cons, Nat.succ_mul]
    omega
theorem small_vv {k : Nat} (hh : Hc) {i : Int} (hi : i.natAbs < 256) : VV Q p hh k 8 (.int i) := VV.int (W := 8) hi (by omega)
theorem mach_vv {P : Int} {L : List (List Int × C)} (q : GL P 4 L) (h1 : 1 ≤ P) (h2 : P ≤ 12) (hh : Hc) : VV Q p hh 3 180 (machOf P L) := by
  have ln : ((sortK (L.map (·.1))).map (rowOf L)).length ≤ 4 := by
    rw [List.length_map, (sortK_perm _).length_eq, List.length_map]
    exact q.len
  have rows : VVs Q p hh 1 (((sortK (L.map (·.1))).map (rowOf L)).length * (36 + 1)) ((sortK (L.map (·.1))).map (rowOf L)) := vvs_all hh _ fun x hx => by
    obtain ⟨k, hk, rfl⟩ := List.mem_map.mp hx
    obtain ⟨a, b, l, m, _, _, e, g1, g2, g3, g4, g5, g6, g7, g8⟩ := row_is q hk
    rw [e]
    refine VVs.tup (by simp) ((vvs_all (k := 0) (W := 8) hh [.int a, .int b, .int l, .int m] fun c hc => ?_).mono (Nat.le_refl _) (by simp))
    simp only [List.mem_cons, List.not_mem_nil, or_false] at hc
    rcases hc with rfl | rfl | rfl | rfl <;> exact small_vv hh (by omega)
  have rt : VV Q p hh 2 148 (.tup ((sortK (L.map (·.1))).map (rowOf L))) := (VVs.tup (by omega) rows).mono (Nat.le_refl _) (by omega)
  refine (VVs.tup (by simp) (VVs.cons (VV.str (k := 2) (by decide +kernel)) (VVs.cons (small_vv (k := 2) hh (i := P) (by omega)) (VVs.cons rt .nil)))).mono (Nat.le_refl _) ?_
  rw [show (("machine" : Str)).cps.size = 7 by decide +kernel]
  omega
theorem mach_nr {P : Int} {i : Nat} {L : List (List Int × C)} (q : GL P i L) (n : Nat) : C.under n (machOf P L) = true := by
  show (true && (true && (C.unders n ((sortK (L.map (·.1))).map (rowOf L)) && true))) = true
  have : C.unders n ((sortK (L.map (·.1))).map (rowOf L)) = true := by
    have hm : ∀ k ∈ sortK (L.map (·.1)), C.under n (rowOf L k) = true := fun k hk => by
      obtain ⟨a, b, l, m, _, _, e, _⟩ := row_is q hk
      rw [e]; rfl
    generalize sortK (L.map (·.1)) = ks at hm
    induction ks with
    | nil => rfl
    | cons k ks ih =>
      show (C.under n (rowOf L k) && C.unders n (ks.map (rowOf L))) = true
      rw [hm k (by simp), ih fun x hx => hm x (by simp [hx])]; rfl
  rw [this]; rfl
theorem kb_loop (d : Nat) {P : Nat} (hP1 : 1 ≤ P) (hP : P ≤ 12) {t : Nat} (ht : t ≤ 4) {hx : Hc} (hp : PotAt hx p) (s3 s4 : Option C) :
    ∃ hy L s3' s4', Nx p hx hy ∧ GL P t L ∧ forF (.rng 0 t) (Pt.put (Rn (d + 1)) sub WH none (.v 3)) (Ss.ev (Rn (d + 1)) sub WH KB none) WH 0 [some (.ref p), some (.int (P : Int)), some (.dref hx.length), s3, s4] (hx ++ [[.bl true]]) = .nx [some (.ref p), some (.int (P : Int)), some (.dref hx.length), s3', s4'] (hy ++ [.bl true :: L.map entC]) := by
  have g := forF_gen (it := .rng 0 t) (n := t) (el := fun i => .int (0 + (i : Int))) (g := Pt.put (Rn (d + 1)) sub WH none (.v 3)) (b := Ss.ev (Rn (d + 1)) sub WH KB none)
    (fun i sl h' => ∃ hy L s3' s4', Nx p hx hy ∧ GL P i L ∧ sl = [some (.ref p), some (.int (P : Int)), some (.dref hx.length), s3', s4'] ∧ h' = hy ++ [.bl true :: L.map entC])
    (fun i sl h' _ _ => at_rng 0 t i h')
    (fun i sl h' ⟨hy, L, s3', s4', nx, gl, es, eh⟩ hi => by
      subst es eh
      have hlt := hp.lt
      have pY : PotAt hy p := nx.pot hp
      have pot1 := pY.app [.bl true :: L.map entC]
      obtain ⟨a, g1, ha, n1, e1⟩ := draw2 d pot1 (P : Int) (by omega) (by omega)
      obtain ⟨b, g2, hb, n2, e2⟩ := draw2 d (n1.pot pot1) (P : Int) (by omega) (by omega)
      obtain ⟨l, g3, hl, n3, e3⟩ := draw2 d (n2.pot (n1.pot pot1)) 4 (by decide) (by decide)
      obtain ⟨m, g4, hm, n4, e4⟩ := draw2 d (n3.pot (n2.pot (n1.pot pot1))) 3 (by decide) (by decide)
      obtain ⟨hz, nz, ez⟩ := nx_split (by rw [nx.len]; exact hlt) (((n1.trans n2).trans n3).trans n4)
      subst ez
      have lz : hz.length = hx.length := by rw [nz.len, nx.len]
      have at_n : (hz ++ [.bl true :: L.map entC])[hx.length]? = some (.bl true :: L.map entC) := by rw [← lz]; exact last_get _ _
      have e5 := dput_at (k := [(a : Int), (b : Int), 1 + (l : Int)]) (c := .int (1 + (m : Int))) at_n (by have := gl.len; omega)
      have es : (hz ++ [.bl true :: L.map entC]).set hx.length (.bl true :: (putL [(a : Int), (b : Int), 1 + (l : Int)] (.int (1 + (m : Int))) L).map entC) = hz ++ [.bl true :: (putL [(a : Int), (b : Int), 1 + (l : Int)] (.int (1 + (m : Int))) L).map entC] := by
        rw [List.set_append_right _ _ (by omega), lz, Nat.sub_self]; rfl
      rw [es] at e5
      have kb := kb_ev (sub := sub) (w := WH) (s3 := some (.int (0 + (i : Int)))) (s4 := s4') e1 e2 e3 e4 e5
      exact ⟨_, _, _, _, rfl, .inl kb, hz, _, _, _, nx.trans nz, gl.put ⟨_, _, _, _, rfl, by omega, by omega, by omega, by omega, by omega, by omega, by omega, by omega⟩, rfl, rfl⟩)
    WH 0 [some (.ref p), some (.int (P : Int)), some (.dref hx.length), s3, s4] (hx ++ [[.bl true]]) ⟨hx, [], _, _, .inl rfl, .nil _, rfl, rfl⟩ (Nat.zero_le _) (by have := wh_big; omega)
  obtain ⟨sl', h', e1, hy, L, s3', s4', nx, gl, rfl, rfl⟩ := g
  exact ⟨hy, L, s3', s4', nx, gl, e1⟩
theorem rt_ev (d : Nat) {P : Nat} {hy : Hc} {n : Nat} (hn : n = hy.length) {L : List (List Int × C)} (gl : GL P 4 L) (hP : P ≤ 12) (s0 s3 s4 : Option C) :
    ∃ t, E.ev (Rn d) sub WH none RT [s0, some (.int (P : Int)), some (.dref n), s3, s4] (hy ++ [.bl true :: L.map entC]) = .ok (machOf P L) (hy ++ t) := by
  subst hn
  have at_n : (hy ++ [.bl true :: L.map entC])[hy.length]? = some (.bl true :: L.map entC) := last_get _ _
  have kin := gl.keys (by omega)
  have so := sorted_ent at_n (d := 3) (by decide) kin (by have := gl.len; omega)
  have lk : (sortK (L.map (·.1))).length ≤ 4 := by
    rw [(sortK_perm _).length_eq, List.length_map]; exact gl.len
  have hk : ∀ k ∈ sortK (L.map (·.1)), k.length ≤ 10 ∧ ∃ c, gotL k L = some c := fun k hk => by
    obtain ⟨a, b, l, m, rfl, g, _⟩ := row_is gl hk
    exact ⟨by simp, _, g⟩
  have mo : machOf P L = .tup [.str "machine", .int P, .tup ((sortK (L.map (·.1))).map (rowOf L))] := rfl
  have eqr : ∀ k ∈ sortK (L.map (·.1)), ∀ c, gotL k L = some c → rowOf L k = .tup (k.map .int ++ [c]) := fun k _ c g => by
    unfold rowOf; rw [g]; rfl
  generalize sortK (L.map (·.1)) = ks at so lk hk mo eqr
  have at_m : (hy ++ [.bl true :: L.map entC] ++ [ks.map fun ns => C.tup (ns.map .int)])[hy.length]? = some (.bl true :: L.map entC) := by
    rw [List.getElem?_append_left (by simp)]; exact at_n
  have at_k := last_get (hy ++ [.bl true :: L.map entC]) (ks.map fun ns => C.tup (ns.map .int))
  generalize hH : hy ++ [.bl true :: L.map entC] ++ [ks.map fun ns => C.tup (ns.map .int)] = H at at_m at_k so
  have cm := compF_map (it := .lst (hy ++ [.bl true :: L.map entC]).length) (n := ks.length) (el := fun i => .tup ((ks.getD i []).map .int)) (ev := fun i => rowOf L (ks.getD i []))
    (g := fun c sl h => Pt.put (Rn d) sub WH none (.v 4) c sl h) (t := fun sl h => T.ev (Rn d) sub WH none .yes sl h) (e := fun sl h => E.ev (Rn d) sub WH none CE sl h)
    (sl := [s0, some (.int (P : Int)), some (.dref hy.length), s3, none]) (h := H) (by omega)
    (fun i hi => by
      rw [at_lst at_k]
      by_cases z : i < ks.length
      · rw [if_pos z, List.getElem?_map, List.getElem?_eq_getElem z, List.getD_eq_getElem?_getD, List.getElem?_eq_getElem z]; rfl
      · rw [if_neg z, List.getElem?_eq_none (by simp; omega)])
    (fun i hi => by
      have e0 : ks.getD i [] = ks[i] := by rw [List.getD_eq_getElem?_getD, List.getElem?_eq_getElem hi]; rfl
      obtain ⟨h1, c, g⟩ := hk ks[i] (List.getElem_mem hi)
      refine ⟨[s0, some (.int (P : Int)), some (.dref hy.length), s3, some (.tup ((ks.getD i []).map .int))], rfl, rfl, ?_⟩
      rw [e0, eqr _ (List.getElem_mem hi) c g]
      exact ce_ev at_m g h1)
    WH (by have := wh_big; omega)
  have mp : (List.range ks.length).map (fun i => rowOf L (ks.getD i [])) = ks.map (rowOf L) := by
    apply List.ext_getElem
    · simp
    · intro i a1 a2
      simp at a1
      simp [List.getD_eq_getElem?_getD, List.getElem?_eq_getElem a1]
  rw [mp] at cm
  have l3 : (3 : Nat) ≤ lineN := by decide
  refine ⟨[.bl true :: L.map entC] ++ [ks.map fun ns => C.tup (ns.map .int)] ++ [ks.map (rowOf L)], ?_⟩
  have tr := tuple_ref (last_get H (ks.map (rowOf L)))
  have eH : hy ++ ([.bl true :: L.map entC] ++ [ks.map fun ns => C.tup (ns.map .int)] ++ [ks.map (rowOf L)]) = H ++ [ks.map (rowOf L)] := by rw [← hH]; simp
  rw [eH, mo]
  unfold RT
  generalize hc : CE = ce at cm
  generalize WH = w at cm ⊢
  have wi : Pt.wipe (.v 4) [s0, some (.int (P : Int)), some (.dref hy.length), s3, s4] = [s0, some (.int (P : Int)), some (.dref hy.length), s3, none] := rfl
  simp only [Ss.ev, S.ev, Hs.ev, E.ev, Es.ev, T.ev, Pt.put, Pts.put, Pts.len, Es.len, Oe.ev, It.ev, bind_ok, bind_err, bind_bad, th_ok, th_err, th_bad, nxth, retth, errth, badth, noerr_ok, fin_nx, fin_ret, fin_err, tidy_same, tidyX_same, List.getElem?_cons_zero, List.getElem?_cons_succ, List.set_cons_zero, List.set_cons_succ] at cm
  simp only [Ss.ev, S.ev, Hs.ev, E.ev, Es.ev, T.ev, Pt.put, Pts.put, Pts.len, Es.len, Oe.ev, It.ev, bind_ok, bind_err, bind_bad, th_ok, th_err, th_bad, nxth, retth, errth, badth, noerr_ok, fin_nx, fin_ret, fin_err, tidy_same, tidyX_same, List.getElem?_cons_zero, List.getElem?_cons_succ, List.set_cons_zero, List.set_cons_succ, so, wi, cm, tr, List.length_cons, List.length_nil, Nat.reduceAdd, l3, if_true]
theorem s_for {call : Nat → List C → Hc → R C} {sub : Nat → Str → Option Bool} {w : Nat} {cx : Option (Nat × List C)} {pt : Pt} {it : It} {b : Ss} {sl : Sl} {h h1 : Hc} {v : ItV} {r : RS'} (e : It.ev call sub w cx it sl h = .ok v h1) (f : forF v (Pt.put call sub w cx pt) (Ss.ev call sub w b cx) w 0 sl h1 = r) : S.ev call sub w (.for_ pt it b) cx sl h = r := by
  rw [S.ev, e]
  exact f
theorem s_ret {call : Nat → List C → Hc → R C} {sub : Nat → Str → Option Bool} {w : Nat} {cx : Option (Nat × List C)} {a : E} {sl : Sl} {h h1 : Hc} {c : C} (e : E.ev call sub w cx a sl h = .ok c h1) : S.ev call sub w (.ret a) cx sl h = .ret c h1 := by
  rw [S.ev, e]; rfl
theorem b15_ev {call : Nat → List C → Hc → R C} {sub : Nat → Str → Option Bool} {w : Nat} {j : Int} {t : Nat} {h1 h2 h3 h4 : Hc} {sl : Sl} {M : C} (ht : t < 1000) (e1 : call 8 [.ref p, .int 3] h = .ok (.int j) h1) (e2 : call 8 [.ref p, .int 5] (h1 ++ [[.bl true]]) = .ok (.int (t : Int)) h2)
    (e3 : forF (.rng 0 t) (Pt.put call sub w none (.v 3)) (Ss.ev call sub w KB none) w 0 [some (.ref p), some (.int (1 + j)), some (.dref h1.length), none, none] h2 = .nx sl h3) (e4 : E.ev call sub w none RT sl h3 = .ok M h4) :
    Ss.ev call sub w b15 none [some (.ref p), none, none, none, none] h = .ret M h4 := by
  have l2 : (2 : Nat) ≤ lineN := by decide
  have s1 : S.ev call sub w (.asg (.tup (.cons (.v 1) (.cons (.v 2) .nil))) (.tup (.cons (.bin .add (.con (.int 1)) (.call 8 (.cons (.var 0) (.cons (.con (.int 3)) .nil)))) (.cons .dnew .nil)))) none [some (.ref p), none, none, none, none] h = .nx [some (.ref p), some (.int (1 + j)), some (.dref h1.length), none, none] (h1 ++ [[.bl true]]) := by
    simp only [Ss.ev, S.ev, Hs.ev, E.ev, Es.ev, T.ev, Pt.put, Pts.put, Pts.len, Es.len, Oe.ev, It.ev, bind_ok, bind_err, bind_bad, th_ok, th_err, th_bad, nxth, retth, errth, badth, noerr_ok, fin_nx, fin_ret, fin_err, tidy_same, tidyX_same, List.getElem?_cons_zero, List.getElem?_cons_succ, List.set_cons_zero, List.set_cons_succ, e1, add_int, List.length_cons, List.length_nil, Nat.reduceAdd, l2, if_true]
  have i1 : It.ev call sub w none (.rng1 (.call 8 (.cons (.var 0) (.cons (.con (.int 5)) .nil)))) [some (.ref p), some (.int (1 + j)), some (.dref h1.length), none, none] (h1 ++ [[.bl true]]) = .ok (.rng 0 t) h2 := it_rng1 (by simp only [Ss.ev, S.ev, Hs.ev, E.ev, Es.ev, T.ev, Pt.put, Pts.put, Pts.len, Es.len, Oe.ev, It.ev, bind_ok, bind_err, bind_bad, th_ok, th_err, th_bad, nxth, retth, errth, badth, noerr_ok, fin_nx, fin_ret, fin_err, tidy_same, tidyX_same, List.getElem?_cons_zero, List.getElem?_cons_succ, List.set_cons_zero, List.set_cons_succ, e2]) (by omega)
  rw [b15_is, ss_cons, s1, nxth, ss_cons, s_for i1 e3, nxth, ss_cons, s_ret e4, retth]
theorem r15 (d : Nat) (hp : PotAt h p) (cl : ClH h) : ∃ (P : Nat) (L : List (List Int × C)) (h' : Hc), 1 ≤ P ∧ P ≤ 3 ∧ GL P 4 L ∧ Nx p h h' ∧ Rn (d + 2) 15 [.ref p] h = .ok (machOf P L) h' := by
  obtain ⟨j, h1, hj, n1, e1⟩ := draw2 d hp 3 (by decide) (by decide)
  have hlt := hp.lt
  have pot1 := n1.pot hp
  have pot2 := pot1.app [[C.bl true]]
  obtain ⟨t, h2, ht, n2, e2⟩ := draw2 d pot2 5 (by decide) (by decide)
  obtain ⟨hx, nx, rfl⟩ := nx_split pot1.lt n2
  have lx : hx.length = h1.length := nx.len
  obtain ⟨hy, L, s3', s4', ny, gl, e3⟩ := kb_loop d (P := 1 + j) (by omega) (by omega) (t := t) (by omega) (hx := hx) (nx.pot pot1) none none
  have gl4 : GL ((1 + j : Nat) : Int) 4 L := ⟨by have := gl.len; omega, gl.nd, gl.g⟩
  obtain ⟨tt, e4⟩ := rt_ev (d + 1) (P := 1 + j) (hy := hy) (n := h1.length) (by rw [ny.len, lx]) gl4 (by omega) (some (.ref p)) s3' s4'
  have nn := (n1.trans nx).trans ny
  refine ⟨1 + j, L, hy, by omega, by omega, gl4, nn, ?_⟩
  have ti : tidy h.length (machOf ((1 + j : Nat) : Int) L) (hy ++ tt) = .ok (machOf ((1 + j : Nat) : Int) L) hy := by
    rw [← nn.len]
    exact tidy_cl (nn.closed cl) _ _ (mach_nr gl4 _)
  rw [lx] at e3
  have b := b15_ev (by omega) e1 e2 (by rw [show (1 : Int) + (j : Int) = ((1 + j : Nat) : Int) by omega]; exact e3) e4
  rw [u15, b]
  exact ti
end K39
set_option linter.all false
set_option autoImplicit false
set_option maxRecDepth 100000
set_option maxHeartbeats 16000000
namespace K39
open Sh PySem
variable {h : Hc} {p : Nat} {Q : Nat → Prop}
def LI16 : Ss := (.cons (.app (.var 4) (.call 8 (.cons (.var 0) (.cons (.con (.int 4)) .nil)))) .nil)
def LO16 (li : Ss) : Ss := (.cons (.asg (.v 4) (.lst .nil)) (.cons (.for_ (.v 5) (.rng1 (.var 1)) li) (.cons (.app (.var 2) (.bi .tuple (.cons (.var 4) .nil))) .nil)))
theorem b16_is : b16 = (.cons (.par 1 2 (.bin .add (.con (.int 1)) (.call 8 (.cons (.var 0) (.cons (.con (.int 4)) .nil)))) (.lst .nil)) (.cons (.for_ (.v 3) (.rng1 (.var 1)) (LO16 LI16)) (.cons (.ret (.bi .tuple (.cons (.var 2) .nil))) .nil))) := rfl
section
variable {call : Nat → List C → Hc → R C} {sub : Nat → Str → Option Bool} {w : Nat}
theorem app_ev {cx : Option (Nat × List C)} {o e : E} {sl : Sl} {h h1 h2 : Hc} {n : Nat} {xs : List C} {y : C} (e1 : E.ev call sub w cx o sl h = .ok (.ref n) h1) (e2 : E.ev call sub w cx e sl h1 = .ok y h2) (e3 : h2[n]? = some xs) (hl : xs.length < 1000) :
    S.ev call sub w (.app o e) cx sl h = .nx sl (h2.set n (xs ++ [y])) := by
  have l : xs.length < lineN := Nat.lt_trans hl (by decide)
  rw [S.ev, e1, th_ok]
  dsimp only
  rw [e2, th_ok, e3]
  dsimp only
  rw [if_pos l]
theorem set_last (hz : Hc) (a b : List C) : (hz ++ [a]).set hz.length b = hz ++ [b] := by
  rw [List.set_append_right _ _ (Nat.le_refl _), Nat.sub_self]; rfl
end
theorem app_loop (d : Nat) {P : Nat} (hP : P ≤ 12) {hz : Hc} (hp : PotAt hz p) (s2 s3 s5 : Option C) :
    ∃ hy row s5', Nx p hz hy ∧ row.length = P ∧ (∀ x ∈ row, 0 ≤ x ∧ x ≤ 3) ∧ forF (.rng 0 P) (Pt.put (Rn (d + 1)) sub WH none (.v 5)) (Ss.ev (Rn (d + 1)) sub WH LI16 none) WH 0 [some (.ref p), some (.int (P : Int)), s2, s3, some (.ref hz.length), s5] (hz ++ [[]]) = .nx [some (.ref p), some (.int (P : Int)), s2, s3, some (.ref hz.length), s5'] (hy ++ [iZ row]) := by
  have g := forF_gen (it := .rng 0 P) (n := P) (el := fun i => .int (0 + (i : Int))) (g := Pt.put (Rn (d + 1)) sub WH none (.v 5)) (b := Ss.ev (Rn (d + 1)) sub WH LI16 none)
    (fun i sl h' => ∃ hy row s5', Nx p hz hy ∧ row.length = i ∧ (∀ x ∈ row, 0 ≤ x ∧ x ≤ 3) ∧ sl = [some (.ref p), some (.int (P : Int)), s2, s3, some (.ref hz.length), s5'] ∧ h' = hy ++ [iZ row])
    (fun i sl h' _ _ => at_rng 0 P i h')
    (fun i sl h' ⟨hy, row, s5', nx, rl, rb, es, eh⟩ hi => by
      subst es eh
      have pY : PotAt hy p := nx.pot hp
      obtain ⟨a, g1, ha, n1, e1⟩ := draw2 d (pY.app [iZ row]) 4 (by decide) (by decide)
      obtain ⟨hu, nu, rfl⟩ := nx_split pY.lt n1
      have lu : hu.length = hz.length := by rw [nu.len, nx.len]
      have ap := app_ev (call := Rn (d + 1)) (sub := sub) (w := WH) (cx := none) (o := .var 4) (e := .call 8 (.cons (.var 0) (.cons (.con (.int 4)) .nil))) (sl := [some (.ref p), some (.int (P : Int)), s2, s3, some (.ref hz.length), some (.int (0 + (i : Int)))]) (n := hz.length) (xs := iZ row) (h := hy ++ [iZ row]) (h1 := hy ++ [iZ row]) (h2 := hu ++ [iZ row]) (y := .int (a : Int)) rfl (by simp only [Ss.ev, S.ev, Hs.ev, E.ev, Es.ev, T.ev, Pt.put, Pts.put, Pts.len, Es.len, Oe.ev, It.ev, bind_ok, bind_err, bind_bad, th_ok, th_err, th_bad, nxth, retth, errth, badth, noerr_ok, fin_nx, fin_ret, fin_err, tidy_same, tidyX_same, List.getElem?_cons_zero, List.getElem?_cons_succ, List.set_cons_zero, List.set_cons_succ, e1]) (by rw [← lu]; exact last_get _ _) (by rw [iZ_len]; omega)
      have bo : Ss.ev (Rn (d + 1)) sub WH LI16 none [some (.ref p), some (.int (P : Int)), s2, s3, some (.ref hz.length), some (.int (0 + (i : Int)))] (hy ++ [iZ row]) = .nx [some (.ref p), some (.int (P : Int)), s2, s3, some (.ref hz.length), some (.int (0 + (i : Int)))] ((hu ++ [iZ row]).set hz.length (iZ row ++ [.int (a : Int)])) := by
        rw [LI16, ss_cons, ap, nxth, ss_nil]
      refine ⟨[some (.ref p), some (.int (P : Int)), s2, s3, some (.ref hz.length), some (.int (0 + (i : Int)))], _, _, _, rfl, .inl bo, hu, row ++ [(a : Int)], _, nx.trans nu, by simp [rl], fun x hx => ?_, rfl, ?_⟩
      · rcases List.mem_append.mp hx with hx | hx
        · exact rb x hx
        · rw [List.mem_singleton.mp hx]; omega
      · rw [← lu, set_last, iZ_app]; rfl)
    WH 0 [some (.ref p), some (.int (P : Int)), s2, s3, some (.ref hz.length), s5] (hz ++ [[]]) ⟨hz, [], _, .inl rfl, rfl, by simp, rfl, rfl⟩ (Nat.zero_le _) (by have := wh_big; omega)
  obtain ⟨sl', h', e1, hy, row, s5', nx, rl, rb, rfl, rfl⟩ := g
  exact ⟨hy, row, s5', nx, rl, rb, e1⟩
structure TabR (P : Nat) (i : Nat) (rows : List (List Int)) : Prop where
  len : rows.length = i
  r : ∀ r ∈ rows, r.length = P ∧ ∀ x ∈ r, 0 ≤ x ∧ x ≤ 3
def tabOf (rows : List (List Int)) : C := .tup (rows.map tZ)
theorem tab_ok {P : Nat} {rows : List (List Int)} (q : TabR P P rows) (h1 : 1 ≤ P) (h2 : P ≤ 12) : tabB (tabOf rows) = true := by
  have l : (rows.map tZ).length = P := by rw [List.length_map, q.len]
  show (decide (1 ≤ (rows.map tZ).length ∧ (rows.map tZ).length ≤ 12) && (rows.map tZ).all (rowB (rows.map tZ).length)) = true
  rw [l, decide_eq_true ⟨h1, h2⟩]
  refine List.all_eq_true.mpr fun x hx => ?_
  obtain ⟨r, hr, rfl⟩ := List.mem_map.mp hx
  obtain ⟨r1, r2⟩ := q.r r hr
  show (decide ((iZ r).length = P) && (iZ r).all tieB) = true
  rw [decide_eq_true (by rw [iZ_len]; exact r1)]
  refine List.all_eq_true.mpr fun y hy => ?_
  obtain ⟨z, hz, rfl⟩ := List.mem_map.mp hy
  obtain ⟨z1, z2⟩ := r2 z hz
  show (decide (0 ≤ z) && decide (z ≤ 1000000)) = true
  rw [decide_eq_true z1, decide_eq_true (by omega)]; rfl
theorem tab_vv {P : Nat} {rows : List (List Int)} (q : TabR P P rows) (h2 : P ≤ 4) (hh : Hc) : VV Q p hh 2 180 (tabOf rows) := by
  have rw' : VVs Q p hh 1 ((rows.map tZ).length * (36 + 1)) (rows.map tZ) := vvs_all hh _ fun x hx => by
    obtain ⟨r, hr, rfl⟩ := List.mem_map.mp hx
    obtain ⟨r1, r2⟩ := q.r r hr
    refine VVs.tup (by rw [iZ_len]; omega) ((vvs_all (k := 0) (W := 8) hh (iZ r) fun c hc => ?_).mono (Nat.le_refl _) (by rw [iZ_len]; omega))
    obtain ⟨z, hz, rfl⟩ := List.mem_map.mp hc
    obtain ⟨z1, z2⟩ := r2 z hz
    exact small_vv hh (by omega)
  have l : (rows.map tZ).length = P := by rw [List.length_map, q.len]
  exact (VVs.tup (by omega) rw').mono (Nat.le_refl _) (by omega)
theorem tab_nr (rows : List (List Int)) (n : Nat) : C.under n (tabOf rows) = true := by
  show C.unders n (rows.map tZ) = true
  induction rows with
  | nil => rfl
  | cons r rows ih =>
    show (C.unders n (iZ r) && C.unders n (rows.map tZ)) = true
    rw [iZ_unders, ih]; rfl
theorem lo_turn (d : Nat) {P : Nat} (hP : P ≤ 12) {hx t : Hc} {i : Nat} {rows : List (List Int)} (q : TabR P i rows) (hi : i ≤ 100) (hp : PotAt hx p) (s3 s4 s5 : Option C) :
    ∃ hy rows' t' s4' s5', Nx p hx hy ∧ TabR P (i + 1) rows' ∧ Ss.ev (Rn (d + 1)) sub WH (LO16 LI16) none [some (.ref p), some (.int (P : Int)), some (.ref hx.length), s3, s4, s5] (hx ++ ([rows.map tZ] ++ t)) = .nx [some (.ref p), some (.int (P : Int)), some (.ref hx.length), s3, s4', s5'] (hy ++ ([rows'.map tZ] ++ t')) := by
  obtain ⟨hz, row, s5', nz, rl, rb, e1⟩ := app_loop d hP (hp.app ([rows.map tZ] ++ t)) (some (.ref hx.length)) s3 s5
  obtain ⟨hy, ny, rfl⟩ := nx_split hp.lt nz
  have lu : hy.length = hx.length := ny.len
  generalize hH : hx ++ ([rows.map tZ] ++ t) = H at e1 ⊢
  have lH : H.length = (hy ++ ([rows.map tZ] ++ t)).length := by rw [← hH]; simp [lu]
  have s1 : S.ev (Rn (d + 1)) sub WH (.asg (.v 4) (.lst .nil)) none [some (.ref p), some (.int (P : Int)), some (.ref hx.length), s3, s4, s5] H = .nx [some (.ref p), some (.int (P : Int)), some (.ref hx.length), s3, some (.ref H.length), s5] (H ++ [[]]) := by
    have l0 : (0 : Nat) ≤ lineN := by decide
    generalize WH = w
    simp only [Ss.ev, S.ev, Hs.ev, E.ev, Es.ev, T.ev, Pt.put, Pts.put, Pts.len, Es.len, Oe.ev, It.ev, bind_ok, bind_err, bind_bad, th_ok, th_err, th_bad, nxth, retth, errth, badth, noerr_ok, fin_nx, fin_ret, fin_err, tidy_same, tidyX_same, List.getElem?_cons_zero, List.getElem?_cons_succ, List.set_cons_zero, List.set_cons_succ, List.length_nil, l0, if_true]
  have i1 : It.ev (Rn (d + 1)) sub WH none (.rng1 (.var 1)) [some (.ref p), some (.int (P : Int)), some (.ref hx.length), s3, some (.ref H.length), s5] (H ++ [[]]) = .ok (.rng 0 P) (H ++ [[]]) := it_rng1 rfl (by omega)
  have a1 : (hy ++ ([rows.map tZ] ++ t) ++ [iZ row])[H.length]? = some (iZ row) := by rw [lH]; exact last_get _ _
  have a2 : (hy ++ ([rows.map tZ] ++ t) ++ [iZ row])[hx.length]? = some (rows.map tZ) := by
    rw [← lu, List.append_assoc, List.getElem?_append_right (Nat.le_refl _), Nat.sub_self]; rfl
  have a3 : (hy ++ ([rows.map tZ] ++ t) ++ [iZ row]).set hx.length (rows.map tZ ++ [tZ row]) = hy ++ ([(rows ++ [row]).map tZ] ++ (t ++ [iZ row])) := by
    rw [← lu, List.append_assoc, List.set_append_right _ _ (Nat.le_refl _), Nat.sub_self, List.map_append]; simp
  have ap := app_ev (call := Rn (d + 1)) (sub := sub) (w := WH) (cx := none) (o := .var 2) (e := .bi .tuple (.cons (.var 4) .nil)) (sl := [some (.ref p), some (.int (P : Int)), some (.ref hx.length), s3, some (.ref H.length), s5']) (n := hx.length) (xs := rows.map tZ) (y := tZ row) (h := hy ++ ([rows.map tZ] ++ t) ++ [iZ row]) (h1 := hy ++ ([rows.map tZ] ++ t) ++ [iZ row]) (h2 := hy ++ ([rows.map tZ] ++ t) ++ [iZ row]) rfl (by simp only [Ss.ev, S.ev, Hs.ev, E.ev, Es.ev, T.ev, Pt.put, Pts.put, Pts.len, Es.len, Oe.ev, It.ev, bind_ok, bind_err, bind_bad, th_ok, th_err, th_bad, nxth, retth, errth, badth, noerr_ok, fin_nx, fin_ret, fin_err, tidy_same, tidyX_same, List.getElem?_cons_zero, List.getElem?_cons_succ, List.set_cons_zero, List.set_cons_succ, tuple_ref a1]; rfl) a2 (by rw [List.length_map, q.len]; omega)
  refine ⟨hy, rows ++ [row], t ++ [iZ row], some (.ref H.length), s5', ny, ⟨by simp [q.len], fun r hr => ?_⟩, ?_⟩
  · rcases List.mem_append.mp hr with hr | hr
    · exact q.r r hr
    · rw [List.mem_singleton.mp hr]; exact ⟨rl, rb⟩
  · rw [LO16, ss_cons, s1, nxth, ss_cons, s_for i1 e1, nxth, ss_cons, ap, nxth, ss_nil, a3]
theorem tab_loop16 (d : Nat) {P : Nat} (hP : P ≤ 12) {hx : Hc} (hp : PotAt hx p) :
    ∃ hy rows t sl, Nx p hx hy ∧ TabR P P rows ∧ sl[2]? = some (some (.ref hx.length)) ∧ forF (.rng 0 P) (Pt.put (Rn (d + 1)) sub WH none (.v 3)) (Ss.ev (Rn (d + 1)) sub WH (LO16 LI16) none) WH 0 [some (.ref p), some (.int (P : Int)), some (.ref hx.length), none, none, none] (hx ++ [[]]) = .nx sl (hy ++ ([rows.map tZ] ++ t)) := by
  have g := forF_gen (it := .rng 0 P) (n := P) (el := fun i => .int (0 + (i : Int))) (g := Pt.put (Rn (d + 1)) sub WH none (.v 3)) (b := Ss.ev (Rn (d + 1)) sub WH (LO16 LI16) none)
    (fun i sl h' => ∃ hy rows t s3 s4 s5, Nx p hx hy ∧ TabR P i rows ∧ sl = [some (.ref p), some (.int (P : Int)), some (.ref hx.length), s3, s4, s5] ∧ h' = hy ++ ([rows.map tZ] ++ t))
    (fun i sl h' _ _ => at_rng 0 P i h')
    (fun i sl h' ⟨hy, rows, t, s3, s4, s5, nx, q, es, eh⟩ hi => by
      subst es eh
      obtain ⟨hz, rows', t', s4', s5', nz, q', e⟩ := lo_turn d hP (t := t) q (by omega) (nx.pot hp) (some (.int (0 + (i : Int)))) s4 s5
      rw [nx.len] at e
      exact ⟨_, _, _, _, rfl, .inl e, hz, rows', t', _, _, _, nx.trans nz, q', rfl, rfl⟩)
    WH 0 [some (.ref p), some (.int (P : Int)), some (.ref hx.length), none, none, none] (hx ++ [[]]) ⟨hx, [], [], _, _, _, .inl rfl, ⟨rfl, by simp⟩, rfl, rfl⟩ (Nat.zero_le _) (by have := wh_big; omega)
  obtain ⟨sl', h', e1, hy, rows, t, s3, s4, s5, nx, q, rfl, rfl⟩ := g
  exact ⟨hy, rows, t, _, nx, q, rfl, e1⟩
theorem r16 (d : Nat) (hp : PotAt h p) (cl : ClH h) : ∃ (P : Nat) (rows : List (List Int)) (h' : Hc), 1 ≤ P ∧ P ≤ 4 ∧ TabR P P rows ∧ Nx p h h' ∧ Rn (d + 2) 16 [.ref p] h = .ok (tabOf rows) h' := by
  obtain ⟨j, h1, hj, n1, e1⟩ := draw2 d hp 4 (by decide) (by decide)
  have pot1 := n1.pot hp
  obtain ⟨hy, rows, t, sl, ny, q, g2, e3⟩ := tab_loop16 d (P := 1 + j) (by omega) pot1
  have nn := n1.trans ny
  refine ⟨1 + j, rows, hy, by omega, by omega, q, nn, ?_⟩
  have cj : (1 : Int) + (j : Int) = ((1 + j : Nat) : Int) := by omega
  have s1 : S.ev (Rn (d + 1)) sub WH (.par 1 2 (.bin .add (.con (.int 1)) (.call 8 (.cons (.var 0) (.cons (.con (.int 4)) .nil)))) (.lst .nil)) none [some (.ref p), none, none, none, none, none] h = .nx [some (.ref p), some (.int ((1 + j : Nat) : Int)), some (.ref h1.length), none, none, none] (h1 ++ [[]]) := by
    have l0 : (0 : Nat) ≤ lineN := by decide
    generalize WH = w
    simp only [Ss.ev, S.ev, Hs.ev, E.ev, Es.ev, T.ev, Pt.put, Pts.put, Pts.len, Es.len, Oe.ev, It.ev, bind_ok, bind_err, bind_bad, th_ok, th_err, th_bad, nxth, retth, errth, badth, noerr_ok, fin_nx, fin_ret, fin_err, tidy_same, tidyX_same, List.getElem?_cons_zero, List.getElem?_cons_succ, List.set_cons_zero, List.set_cons_succ, e1, add_int, cj, List.length_nil, l0, if_true]
  have i1 : It.ev (Rn (d + 1)) sub WH none (.rng1 (.var 1)) [some (.ref p), some (.int ((1 + j : Nat) : Int)), some (.ref h1.length), none, none, none] (h1 ++ [[]]) = .ok (.rng 0 (1 + j)) (h1 ++ [[]]) := it_rng1 rfl (by omega)
  have a1 : (hy ++ ([rows.map tZ] ++ t))[h1.length]? = some (rows.map tZ) := by
    rw [← ny.len, List.getElem?_append_right (Nat.le_refl _), Nat.sub_self]; rfl
  have e4 : E.ev (Rn (d + 1)) sub WH none (.bi .tuple (.cons (.var 2) .nil)) sl (hy ++ ([rows.map tZ] ++ t)) = .ok (tabOf rows) (hy ++ ([rows.map tZ] ++ t)) := by
    generalize WH = w
    simp only [Ss.ev, S.ev, Hs.ev, E.ev, Es.ev, T.ev, Pt.put, Pts.put, Pts.len, Es.len, Oe.ev, It.ev, bind_ok, bind_err, bind_bad, th_ok, th_err, th_bad, nxth, retth, errth, badth, noerr_ok, fin_nx, fin_ret, fin_err, tidy_same, tidyX_same, List.getElem?_cons_zero, List.getElem?_cons_succ, List.set_cons_zero, List.set_cons_succ, g2, tuple_ref a1]
    rfl
  rw [u16, b16_is, ss_cons, s1, nxth, ss_cons, s_for i1 e3, nxth, ss_cons, s_ret e4, retth, fin_ret, ← nn.len]
  exact tidy_cl (nn.closed cl) _ _ (tab_nr rows _)
end K39
set_option linter.all false
set_option autoImplicit false
set_option maxRecDepth 100000
set_option maxHeartbeats 16000000
namespace K39
open Sh PySem
variable {h : Hc} {p : Nat} {Q : Nat → Prop}
theorem VVs.len {k : Nat} (hp : Pq Q h p) (cl : ClH h) : ∀ {cs : List C} {W : Nat}, VVs Q p h k W cs → cs.length ≤ W
  | [], W, _ => Nat.zero_le _
  | c :: cs, W, v => by
    obtain ⟨V, V2, _, b, hw⟩ := v.split hp cl
    have := VVs.len hp cl b
    simp; omega
theorem VVs.cut {k W : Nat} (hp : Pq Q h p) (cl : ClH h) {cs : List C} (v : VVs Q p h k W cs) (lo hi : Option Int) : VVs Q p h k W (cutC cs lo hi) := by
  unfold cutC
  exact (v.drop hp cl _).take hp cl _
theorem cut_len (cs : List C) (lo hi : Option Int) : (cutC cs lo hi).length ≤ cs.length := by
  unfold cutC
  rw [List.length_take, List.length_drop]
  omega
theorem unders_app (n : Nat) : ∀ xs ys : List C, C.unders n (xs ++ ys) = (C.unders n xs && C.unders n ys)
  | [], ys => rfl
  | x :: xs, ys => by
    show (C.under n x && C.unders n (xs ++ ys)) = (C.under n x && C.unders n xs && C.unders n ys)
    rw [unders_app n xs ys, Bool.and_assoc]
theorem Rs.put {k W W2 : Nat} {h' : Hc} {c : C} {xs ys : List C} (hp : Pq Q h p) (cl : ClH h) (a : VVs Q p h k W xs) (b : VVs Q p h k W ys) (r : Rs Q p h k W2 c h') (hl : xs.length + ys.length ≤ 900) : Rs Q p h (k + 1) (2 * W + 1 + W2) (.tup (xs ++ [c] ++ ys)) h' := by
  have l : (xs ++ [c] ++ ys).length ≤ 1000 := by simp; omega
  refine ⟨r.s, ?_, fun u => ?_⟩
  · have s := r.s
    exact (VVs.tup l (VVs.app s.pot s.cl (VVs.app s.pot s.cl (a.step s) (VVs.cons r.v .nil)) (b.step s))).mono (Nat.le_refl _) (by omega)
  · have u : C.unders h.length (xs ++ [c] ++ ys) = true := u
    rw [unders_app, unders_app] at u
    obtain ⟨u1, u2⟩ := and2 u
    obtain ⟨u3, u4⟩ := and2 u1
    obtain ⟨u5, _⟩ := and2 (show (C.under h.length c && C.unders h.length []) = true from u4)
    exact (VVs.tup l (VVs.app hp cl (VVs.app hp cl a (VVs.cons (r.o u5) .nil)) b)).mono (Nat.le_refl _) (by omega)
theorem sl_t (h : Hc) (cs : List C) (lo hi : Option Int) : slice (.tup cs) lo hi h = .ok (.tup (cutC cs lo hi)) h := rfl
theorem list_t (h : Hc) (cs : List C) : bi .list [.tup cs] h = .ok (.ref h.length) (h ++ [cs]) := rfl
def fW (W D : Nat) : Nat := 140 + 4 * W + D * (2 * W + 1)
theorem fW_s (W D : Nat) : fW W (D + 1) = fW W D + (2 * W + 1) := by unfold fW; rw [Nat.add_mul D 1]; omega
theorem eq_int' (a b : Nat) : (((a : Nat) : Int) == ((b : Nat) : Int)) = decide (a = b) := by
  by_cases q : a = b
  · subst q; simp
  · rw [decide_eq_false q]; simp; omega
/-- odd instead -/
theorem bent_odd (d : Nat) (hp : Pq Q h p) (cl : ClH h) {c : C} {D : Nat} {k W : Nat} (hk : 1 ≤ k)
    (e : ∀ (call : Nat → List C → Hc → R C) (sub : Nat → Str → Option Bool) (w : Nat) (c2 : C) (h2 : Hc), call 17 [.ref p] h = .ok c2 h2 → Ss.ev call sub w b18 none [some (.ref p), some c, some (.int (D : Int)), none, none] h = .ret c2 h2) :
    ∃ c2 h2, Rs Q p h k (fW W D) c2 h2 ∧ Rn (d + 4) 18 [.ref p, c, .int (D : Int)] h = .ok c2 h2 := by
  obtain ⟨c2, h1, o, e1⟩ := odd_run d hp cl
  obtain ⟨h2, t, r⟩ := tidyR hp ((o.rs (.refl hp cl)).mono hk (show 140 ≤ fW W D by unfold fW; omega))
  refine ⟨c2, h2, r, ?_⟩
  rw [u18, e _ _ _ _ _ e1, fin_ret]
  exact t
section
variable {call : Nat → List C → Hc → R C} {sub : Nat → Str → Option Bool} {w : Nat} {cs : List C} {D j y : Nat} {h1 h2 : Hc}
def B18 : Ss := (.cons (.ifs (.cmp .eq (.var 4) (.con (.int 0))) (.cons (.ret (.bin .add (.slc (.var 1) .none (.some (.var 3))) (.slc (.var 1) (.some (.bin .add (.var 3) (.con (.int 1)))) .none))) .nil) .nil) (.cons (.ifs (.cmp .eq (.var 4) (.con (.int 1))) (.cons (.ret (.bin .add (.slc (.var 1) .none (.some (.bin .add (.var 3) (.con (.int 1))))) (.slc (.var 1) (.some (.var 3)) .none))) .nil) .nil) (.cons (.ifs (.cmp .eq (.var 4) (.con (.int 2))) (.cons (.ret (.bin .add (.bin .add (.bin .add (.slc (.var 1) .none (.some (.var 3))) (.slc (.var 1) (.some (.bin .add (.var 3) (.con (.int 1)))) (.some (.bin .add (.var 3) (.con (.int 2)))))) (.slc (.var 1) (.some (.var 3)) (.some (.bin .add (.var 3) (.con (.int 1)))))) (.slc (.var 1) (.some (.bin .add (.var 3) (.con (.int 2)))) .none))) .nil) .nil) (.cons (.ifs (.cmp .eq (.var 4) (.con (.int 3))) (.cons (.ret (.bi .list (.cons (.var 1) .nil))) .nil) .nil) (.cons (.ret (.bin .add (.bin .add (.slc (.var 1) .none (.some (.var 3))) (.tup (.cons (.call 18 (.cons (.var 0) (.cons (.idx (.var 1) (.var 3)) (.cons (.bin .sub (.var 2) (.con (.int 1))) .nil)))) .nil))) (.slc (.var 1) (.some (.bin .add (.var 3) (.con (.int 1)))) .none))) .nil)))))
theorem b18_ev {r : RS'} (e0 : cmpop .eq (.tup cs) (.tup []) h = .ok (.bl false) h) (e1 : call 8 [.ref p, .int (cs.length : Int)] h = .ok (.int (j : Int)) h1) (e2 : call 8 [.ref p, .int 8] h1 = .ok (.int (y : Int)) h2)
    (e : Ss.ev call sub w B18 none [some (.ref p), some (.tup cs), some (.int ((D + 1 : Nat) : Int)), some (.int (j : Int)), some (.int (y : Int))] h2 = r) : Ss.ev call sub w b18 none [some (.ref p), some (.tup cs), some (.int ((D + 1 : Nat) : Int)), none, none] h = r := by
  have z : (((D + 1 : Nat) : Int) == 0) = false := by simp; omega
  have l0 : (0 : Nat) ≤ lineN := by decide
  have eb : b18 = (.cons (.ifs (.or (.not (.tr (.isi (.var 1) .tuple))) (.or (.cmp .eq (.var 1) (.tup .nil)) (.cmp .eq (.var 2) (.con (.int 0))))) (.cons (.ret (.call 17 (.cons (.var 0) .nil))) .nil) .nil) (.cons (.par 3 4 (.call 8 (.cons (.var 0) (.cons (.bi .len (.cons (.var 1) .nil)) .nil))) (.call 8 (.cons (.var 0) (.cons (.con (.int 8)) .nil)))) B18)) := rfl
  rw [eb]
  generalize B18 = b at e ⊢
  simp only [Ss.ev, S.ev, Hs.ev, E.ev, Es.ev, T.ev, Pt.put, Pts.put, Pts.len, Es.len, Oe.ev, It.ev, bind_ok, bind_err, bind_bad, th_ok, th_err, th_bad, nxth, retth, errth, badth, noerr_ok, fin_nx, fin_ret, fin_err, tidy_same, tidyX_same, List.getElem?_cons_zero, List.getElem?_cons_succ, List.set_cons_zero, List.set_cons_succ, isi_t, tr_b, Bool.not_true, Bool.false_eq_true, if_false, List.length_nil, l0, if_true, e0, eq_i', z, len_t, e1, e2, e]
end
theorem bent_run (d : Nat) {k W : Nat} (hk : 1 ≤ k) (hk2 : k ≤ 10) (hW : W ≤ 220) : ∀ (D : Nat), D ≤ 3 → ∀ {h : Hc} {c : C}, Pq Q h p → ClH h → VV Q p h k W c → ∃ c2 h2, Rs Q p h (k + D + 1) (fW W D) c2 h2 ∧ Rn (d + D + 4) 18 [.ref p, c, .int (D : Int)] h = .ok c2 h2 := by
  intro D
  induction D with
  | zero =>
    intro _ h c hp cl v
    obtain ⟨c2, h2, r, e⟩ := bent_odd (D := 0) (c := c) (k := k) (W := W) d hp cl hk (fun call sub w c2 h2 e => by
      have l0 : (0 : Nat) ≤ lineN := by decide
      have z : (((0 : Nat) : Int) == 0) = true := rfl
      cases hc : isiC c .tuple
      · simp only [b18, Ss.ev, S.ev, Hs.ev, E.ev, Es.ev, T.ev, Pt.put, Pts.put, Pts.len, Es.len, Oe.ev, It.ev, bind_ok, bind_err, bind_bad, th_ok, th_err, th_bad, nxth, retth, errth, badth, noerr_ok, fin_nx, fin_ret, fin_err, tidy_same, tidyX_same, List.getElem?_cons_zero, List.getElem?_cons_succ, List.set_cons_zero, List.set_cons_succ, hc, tr_b, Bool.not_false, if_true, e]
      · cases c <;> try (cases hc; done)
        rename_i cs
        cases cs with
        | nil => simp only [b18, Ss.ev, S.ev, Hs.ev, E.ev, Es.ev, T.ev, Pt.put, Pts.put, Pts.len, Es.len, Oe.ev, It.ev, bind_ok, bind_err, bind_bad, th_ok, th_err, th_bad, nxth, retth, errth, badth, noerr_ok, fin_nx, fin_ret, fin_err, tidy_same, tidyX_same, List.getElem?_cons_zero, List.getElem?_cons_succ, List.set_cons_zero, List.set_cons_succ, hc, tr_b, Bool.not_true, Bool.false_eq_true, if_false, List.length_nil, l0, if_true, eq_nn, e]
        | cons x xs =>
          obtain ⟨dv, _, hd⟩ := v.dt
          have e0 := eq_nil (hd h (.refl hp cl)) (by omega)
          simp only [b18, Ss.ev, S.ev, Hs.ev, E.ev, Es.ev, T.ev, Pt.put, Pts.put, Pts.len, Es.len, Oe.ev, It.ev, bind_ok, bind_err, bind_bad, th_ok, th_err, th_bad, nxth, retth, errth, badth, noerr_ok, fin_nx, fin_ret, fin_err, tidy_same, tidyX_same, List.getElem?_cons_zero, List.getElem?_cons_succ, List.set_cons_zero, List.set_cons_succ, hc, tr_b, Bool.not_true, Bool.false_eq_true, if_false, List.length_nil, l0, if_true, e0, eq_i', z, e])
    exact ⟨c2, h2, r.mono (by omega) (Nat.le_refl _), e⟩
  | succ D ih =>
    intro hD h c hp cl v
    cases hc : isiC c .tuple
    · obtain ⟨c2, h2, r, e⟩ := bent_odd (D := D + 1) (c := c) (k := k) (W := W) (d + (D + 1)) hp cl hk (fun call sub w c2 h2 e => by
        simp only [b18, Ss.ev, S.ev, Hs.ev, E.ev, Es.ev, T.ev, Pt.put, Pts.put, Pts.len, Es.len, Oe.ev, It.ev, bind_ok, bind_err, bind_bad, th_ok, th_err, th_bad, nxth, retth, errth, badth, noerr_ok, fin_nx, fin_ret, fin_err, tidy_same, tidyX_same, List.getElem?_cons_zero, List.getElem?_cons_succ, List.set_cons_zero, List.set_cons_succ, hc, tr_b, Bool.not_false, if_true, e])
      exact ⟨c2, h2, r.mono (by omega) (Nat.le_refl _), e⟩
    cases c <;> try (cases hc; done)
    rename_i cs
    cases hcs : cs with
    | nil =>
      obtain ⟨c2, h2, r, e⟩ := bent_odd (D := D + 1) (c := .tup []) (k := k) (W := W) (d + (D + 1)) hp cl hk (fun call sub w c2 h2 e => by
        have l0 : (0 : Nat) ≤ lineN := by decide
        simp only [b18, Ss.ev, S.ev, Hs.ev, E.ev, Es.ev, T.ev, Pt.put, Pts.put, Pts.len, Es.len, Oe.ev, It.ev, bind_ok, bind_err, bind_bad, th_ok, th_err, th_bad, nxth, retth, errth, badth, noerr_ok, fin_nx, fin_ret, fin_err, tidy_same, tidyX_same, List.getElem?_cons_zero, List.getElem?_cons_succ, List.set_cons_zero, List.set_cons_succ, isi_t, tr_b, Bool.not_true, Bool.false_eq_true, if_false, List.length_nil, l0, if_true, eq_nn, e])
      exact ⟨c2, h2, r.mono (by omega) (Nat.le_refl _), e⟩
    | cons x xs =>
    rw [← hcs]
    have e0 : cmpop .eq (.tup cs) (.tup []) h = .ok (.bl false) h := by
      obtain ⟨dv, _, hd⟩ := v.dt
      have q := hd h (.refl hp cl)
      rw [hcs] at q ⊢
      exact eq_nil q (by omega)
    have h0 : 0 < cs.length := by rw [hcs]; simp
    clear hcs
    have vs := v.items hp cl
    have hl : cs.length ≤ 220 := Nat.le_trans (vs.len hp cl) hW
    obtain ⟨j, h1, hj, n1, e1⟩ := draw2q (d + D + 3) hp (cs.length : Int) (by omega) (by omega)
    have e1 : Rn (d + (D + 1) + 3) 8 [.ref p, .int (cs.length : Int)] h = .ok (.int (j : Int)) h1 := e1
    have s1 := Stq.nx hp cl n1
    obtain ⟨y, h2, hy, n2, e2⟩ := draw2q (d + D + 3) s1.pot 8 (by decide) (by decide)
    have e2 : Rn (d + (D + 1) + 3) 8 [.ref p, .int 8] h1 = .ok (.int (y : Int)) h2 := e2
    have nx := n1.trans n2
    have s2 := Stq.nx hp cl nx
    have fin1 : ∀ {c2 : C} {h3 : Hc}, Rs Q p h (k + (D + 1) + 1) (fW W (D + 1)) c2 h3 → Ss.ev (Rn (d + (D + 1) + 3)) sub WH B18 none [some (.ref p), some (.tup cs), some (.int ((D + 1 : Nat) : Int)), some (.int (j : Int)), some (.int (y : Int))] h2 = .ret c2 h3 →
        ∃ c2 h2, Rs Q p h (k + (D + 1) + 1) (fW W (D + 1)) c2 h2 ∧ Rn (d + (D + 1) + 4) 18 [.ref p, .tup cs, .int ((D + 1 : Nat) : Int)] h = .ok c2 h2 := fun {c2 h3} r e => by
      obtain ⟨h4, t, r4⟩ := tidyR hp r
      refine ⟨c2, h4, r4, ?_⟩
      rw [u18, b18_ev e0 e1 e2 e, fin_ret]
      exact t
    have cv := fun lo hi => vs.cut hp cl lo hi
    have cl' := fun lo hi => cut_len cs lo hi
    have old : ∀ {xs : List C} {V : Nat}, xs.length ≤ 1000 → VVs Q p h k V xs → V ≤ fW W (D + 1) → Rs Q p h (k + (D + 1) + 1) (fW W (D + 1)) (.tup xs) h2 := fun l a b => Rs.old s2 ((VVs.tup l a).mono (by omega) b)
    have fge : 4 * W ≤ fW W (D + 1) := by unfold fW; omega
    have wcase : y = 0 ∨ y = 1 ∨ y = 2 ∨ y = 3 ∨ 4 ≤ y := by omega
    have ad : ∀ (xs ys : List C) (hh : Hc), xs.length + ys.length ≤ 1000 → binop .add (.tup xs) (.tup ys) hh = .ok (.tup (xs ++ ys)) hh := fun xs ys hh l => add_tup hh xs ys l
    rcases wcase with rfl | rfl | rfl | rfl | y4
    · have z0 : (((0 : Nat) : Int) == 0) = true := rfl
      have c1 := cl' none (some (j : Int)); have c2 := cl' (some ((j : Int) + 1)) none
      refine fin1 (old (V := W + W) (by rw [List.length_append]; omega) (VVs.app hp cl (cv none (some (j : Int))) (cv (some ((j : Int) + 1)) none)) (by omega)) ?_
      simp only [B18, Ss.ev, S.ev, Hs.ev, E.ev, Es.ev, T.ev, Pt.put, Pts.put, Pts.len, Es.len, Oe.ev, It.ev, bind_ok, bind_err, bind_bad, th_ok, th_err, th_bad, nxth, retth, errth, badth, noerr_ok, fin_nx, fin_ret, fin_err, tidy_same, tidyX_same, List.getElem?_cons_zero, List.getElem?_cons_succ, List.set_cons_zero, List.set_cons_succ, eq_i', z0, if_true, sl_t, add_int, ad _ _ h2 (show (cutC cs none (some (j : Int))).length + (cutC cs (some ((j : Int) + 1)) none).length ≤ 1000 by omega)]
    · have z0 : (((1 : Nat) : Int) == 0) = false := rfl
      have z1 : (((1 : Nat) : Int) == 1) = true := rfl
      have c1 := cl' none (some ((j : Int) + 1)); have c2 := cl' (some (j : Int)) none
      refine fin1 (old (V := W + W) (by rw [List.length_append]; omega) (VVs.app hp cl (cv none (some ((j : Int) + 1))) (cv (some (j : Int)) none)) (by omega)) ?_
      simp only [B18, Ss.ev, S.ev, Hs.ev, E.ev, Es.ev, T.ev, Pt.put, Pts.put, Pts.len, Es.len, Oe.ev, It.ev, bind_ok, bind_err, bind_bad, th_ok, th_err, th_bad, nxth, retth, errth, badth, noerr_ok, fin_nx, fin_ret, fin_err, tidy_same, tidyX_same, List.getElem?_cons_zero, List.getElem?_cons_succ, List.set_cons_zero, List.set_cons_succ, eq_i', z0, z1, Bool.false_eq_true, if_false, if_true, sl_t, add_int, ad _ _ h2 (show (cutC cs none (some ((j : Int) + 1))).length + (cutC cs (some (j : Int)) none).length ≤ 1000 by omega)]
    · have z0 : (((2 : Nat) : Int) == 0) = false := rfl
      have z1 : (((2 : Nat) : Int) == 1) = false := rfl
      have z2 : (((2 : Nat) : Int) == 2) = true := rfl
      have c1 := cl' none (some (j : Int)); have c2 := cl' (some ((j : Int) + 1)) (some ((j : Int) + 2)); have c3 := cl' (some (j : Int)) (some ((j : Int) + 1)); have c4 := cl' (some ((j : Int) + 2)) none
      refine fin1 (old (V := W + W + W + W) (by rw [List.length_append, List.length_append, List.length_append]; omega) (VVs.app hp cl (VVs.app hp cl (VVs.app hp cl (cv none (some (j : Int))) (cv (some ((j : Int) + 1)) (some ((j : Int) + 2)))) (cv (some (j : Int)) (some ((j : Int) + 1)))) (cv (some ((j : Int) + 2)) none)) (by omega)) ?_
      have a1 := ad (cutC cs none (some (j : Int))) (cutC cs (some ((j : Int) + 1)) (some ((j : Int) + 2))) h2 (by omega)
      have a2 := ad (cutC cs none (some (j : Int)) ++ cutC cs (some ((j : Int) + 1)) (some ((j : Int) + 2))) (cutC cs (some (j : Int)) (some ((j : Int) + 1))) h2 (by rw [List.length_append]; omega)
      have a3 := ad (cutC cs none (some (j : Int)) ++ cutC cs (some ((j : Int) + 1)) (some ((j : Int) + 2)) ++ cutC cs (some (j : Int)) (some ((j : Int) + 1))) (cutC cs (some ((j : Int) + 2)) none) h2 (by rw [List.length_append, List.length_append]; omega)
      simp only [B18, Ss.ev, S.ev, Hs.ev, E.ev, Es.ev, T.ev, Pt.put, Pts.put, Pts.len, Es.len, Oe.ev, It.ev, bind_ok, bind_err, bind_bad, th_ok, th_err, th_bad, nxth, retth, errth, badth, noerr_ok, fin_nx, fin_ret, fin_err, tidy_same, tidyX_same, List.getElem?_cons_zero, List.getElem?_cons_succ, List.set_cons_zero, List.set_cons_succ, eq_i', z0, z1, z2, Bool.false_eq_true, if_false, if_true, sl_t, add_int, a1, a2, a3]
    · have z0 : (((3 : Nat) : Int) == 0) = false := rfl
      have z1 : (((3 : Nat) : Int) == 1) = false := rfl
      have z2 : (((3 : Nat) : Int) == 2) = false := rfl
      have z3 : (((3 : Nat) : Int) == 3) = true := rfl
      have s3 : Stq Q p h (h2 ++ [cs]) := s2.push (vs.un _ (by have := s2.len; omega))
      have rr : Rs Q p h (k + (D + 1) + 1) (fW W (D + 1)) (.ref h2.length) (h2 ++ [cs]) := by
        refine ⟨s3, (VVs.ref (last_get _ _) (fun z => absurd (s2.pot.lt' _ z) (by omega)) (vs.step s3)).mono (by omega) (by omega), fun uu => ?_⟩
        exact absurd (of_decide_eq_true (show decide (h2.length < h.length) = true from uu)) (by have := s2.len; omega)
      refine fin1 rr ?_
      simp only [B18, Ss.ev, S.ev, Hs.ev, E.ev, Es.ev, T.ev, Pt.put, Pts.put, Pts.len, Es.len, Oe.ev, It.ev, bind_ok, bind_err, bind_bad, th_ok, th_err, th_bad, nxth, retth, errth, badth, noerr_ok, fin_nx, fin_ret, fin_err, tidy_same, tidyX_same, List.getElem?_cons_zero, List.getElem?_cons_succ, List.set_cons_zero, List.set_cons_succ, eq_i', z0, z1, z2, z3, Bool.false_eq_true, if_false, if_true, list_t]
    · have z0 : (((y : Nat) : Int) == 0) = false := by simp; omega
      have z1 : (((y : Nat) : Int) == 1) = false := by simp; omega
      have z2 : (((y : Nat) : Int) == 2) = false := by simp; omega
      have z3 : (((y : Nat) : Int) == 3) = false := by simp; omega
      have hj' : j < cs.length := by omega
      have vi : VV Q p h2 k W cs[j] := (vs.get hp cl _ (List.getElem_mem hj')).step s2
      obtain ⟨c3, h3, r3, e3⟩ := ih (by omega) s2.pot s2.cl vi
      have r3 := Rs.nx hp cl nx r3
      have c1 := cl' none (some (j : Int)); have c2 := cl' (some ((j : Int) + 1)) none
      have kk : VVs Q p h (k + D + 1) W (cutC cs none (some (j : Int))) := (cv _ _).mono (by omega) (Nat.le_refl _)
      have kl : VVs Q p h (k + D + 1) W (cutC cs (some ((j : Int) + 1)) none) := (cv _ _).mono (by omega) (Nat.le_refl _)
      refine fin1 ((Rs.put hp cl kk kl r3 (by omega)).mono (by omega) (by rw [fW_s]; omega)) ?_
      have it : item (.tup cs) (.int (j : Int)) h2 = .ok cs[j] h2 := item_of (xs := cs) (j := j) rfl (by rw [ix_nat, if_pos hj']) (List.getElem?_eq_getElem hj')
      have sb : (((D + 1 : Nat) : Int) - 1) = (D : Int) := by omega
      have e3 : Rn (d + (D + 1) + 3) 18 [.ref p, cs[j], .int (D : Int)] h2 = .ok c3 h3 := e3
      have l1 : (1 : Nat) ≤ lineN := by decide
      have a1 := ad (cutC cs none (some (j : Int))) [c3] h3 (by simp; omega)
      have a2 := ad (cutC cs none (some (j : Int)) ++ [c3]) (cutC cs (some ((j : Int) + 1)) none) h3 (by rw [List.length_append]; simp; omega)
      simp only [B18, Ss.ev, S.ev, Hs.ev, E.ev, Es.ev, T.ev, Pt.put, Pts.put, Pts.len, Es.len, Oe.ev, It.ev, bind_ok, bind_err, bind_bad, th_ok, th_err, th_bad, nxth, retth, errth, badth, noerr_ok, fin_nx, fin_ret, fin_err, tidy_same, tidyX_same, List.getElem?_cons_zero, List.getElem?_cons_succ, List.set_cons_zero, List.set_cons_succ, eq_i', z0, z1, z2, z3, Bool.false_eq_true, if_false, if_true, sl_t, add_int, it, sub_i, sb, e3, List.length_cons, List.length_nil, Nat.reduceAdd, l1, a1, a2]
end K39
set_option linter.all false
set_option autoImplicit false
set_option maxRecDepth 100000
set_option maxHeartbeats 16000000
namespace K39
open Sh PySem
variable {h : Hc} {p : Nat} {Q Q0 : Nat → Prop}
/-! ### a value told and due -/
def LF : Ss := (.cons (.asg (.v 7) (.bi .repr (.cons (.var 6) .nil))) (.cons (.asg (.v 8) (.lst (.cons (.call 4 (.cons (.var 6) .nil)) (.cons (.callk 4 .nil (.cons (.var 6) .nil) [0]) .nil)))) (.cons (.asg (.v 8) (.bin .add (.var 8) (.lst (.cons (.call 6 (.cons (.var 6) .nil)) (.cons (.callk 6 .nil (.cons (.var 6) .nil) [0]) .nil))))) (.cons (.asg (.v 9) (.bin .add (.bin .mul (.lst (.cons (.call 13 (.cons (.var 6) .nil)) .nil)) (.con (.int 2))) (.bin .mul (.lst (.cons (.call 14 (.cons (.var 6) .nil)) .nil)) (.con (.int 2))))) (.cons (.ifs (.or (.cmp .ne (.bi .repr (.cons (.var 8) .nil)) (.bi .repr (.cons (.var 9) .nil))) (.cmp .ne (.bi .repr (.cons (.var 6) .nil)) (.var 7))) (.cons (.ret (.con (.bl false))) .nil) .nil) .nil)))))
def junk (x y : Bool) : Hc := [[C.bl x, .bl x], [.bl y, .bl y], [.bl x, .bl x, .bl y, .bl y], [.bl x], [.bl x, .bl x], [.bl y], [.bl y, .bl y], [.bl x, .bl x, .bl y, .bl y]]
theorem rep4 (x y : Bool) (hh : Hc) (n : Nat) (hn : hh[n]? = some [C.bl x, .bl x, .bl y, .bl y]) : bi .repr [.ref n] hh = .ok (.rep (.list [.bool x, .bool x, .bool y, .bool y])) hh := by
  refine repr_of ?_ (by cases x <;> cases y <;> decide +kernel)
  show (match hh[n]? with
    | some cs => (cs.mapM (toD hh 59)).map PyData.list
    | none => none) = _
  rw [hn]
  rfl
theorem ne_rep {d : PyData} (hd : d.hasDict = false) (h : Hc) : cmpop .ne (.rep d) (.rep d) h = .ok (.bl false) h := by
  show (match ceq h 40 (.rep d) (.rep d) with
      | some b => R.ok (C.bl (!b)) h
      | none => .bad) = _
  rw [ceq_rep h 39 d hd]; rfl
theorem mul2 {hh : Hc} {n : Nat} {c : C} (e : hh[n]? = some [c]) : binop .mul (.ref n) (.int 2) hh = .ok (.ref hh.length) (hh ++ [[c, c]]) := by
  show (match hh[n]? with
    | some xs => if (2 : Int) < 0 ∨ lineN < xs.length * (2 : Int).toNat ∨ 1000000000 ≤ (2 : Int) then R.bad else R.ok (C.ref hh.length) (hh ++ [(List.replicate (2 : Int).toNat xs).flatten])
    | _ => .bad) = _
  rw [e]
  rfl
theorem val_ev {call : Nat → List C → Hc → R C} {sub : Nat → Str → Option Bool} {w : Nat} {c : C} {dv : PyData} {x y : Bool} {s0 s1 s2 s3 s4 s5 s7 s8 s9 s10 : Option C} (hd : dv.hasDict = false)
    (e0 : bi .repr [c] h = .ok (.rep dv) h) (e1 : call 4 [c] h = .ok (.bl x) h) (e2 : call 6 [c] (h ++ [[.bl x, .bl x]]) = .ok (.bl y) (h ++ [[.bl x, .bl x]]))
    (e3 : call 13 [c] (h ++ [[C.bl x, .bl x]] ++ [[.bl y, .bl y]] ++ [[.bl x, .bl x, .bl y, .bl y]]) = .ok (.bl x) (h ++ [[C.bl x, .bl x]] ++ [[.bl y, .bl y]] ++ [[.bl x, .bl x, .bl y, .bl y]]))
    (e4 : call 14 [c] (h ++ [[C.bl x, .bl x]] ++ [[.bl y, .bl y]] ++ [[.bl x, .bl x, .bl y, .bl y]] ++ [[.bl x]] ++ [[.bl x, .bl x]]) = .ok (.bl y) (h ++ [[C.bl x, .bl x]] ++ [[.bl y, .bl y]] ++ [[.bl x, .bl x, .bl y, .bl y]] ++ [[.bl x]] ++ [[.bl x, .bl x]]))
    (e5 : bi .repr [c] (h ++ junk x y) = .ok (.rep dv) (h ++ junk x y)) :
    ∃ t8 t9, Ss.ev call sub w LF none [s0, s1, s2, s3, s4, s5, some c, s7, s8, s9, s10] h = .nx [s0, s1, s2, s3, s4, s5, some c, some (.rep dv), some t8, some t9, s10] (h ++ junk x y) := by
  have l1 : (1 : Nat) ≤ lineN := by decide
  have l2 : (2 : Nat) ≤ lineN := by decide
  generalize hA1 : h ++ [[C.bl x, .bl x]] = A1 at e2 e3 e4
  generalize hA2 : A1 ++ [[C.bl y, .bl y]] = A2 at e3 e4
  have a1 := add_ref (h := A2) (a := h.length) (b := A1.length) (xs := [C.bl x, .bl x]) (ys := [C.bl y, .bl y]) (by rw [← hA2, ← hA1, List.getElem?_append_left (by simp)]; exact last_get _ _) (by rw [← hA2]; exact last_get _ _) (by simp)
  have a1 : binop .add (.ref h.length) (.ref A1.length) A2 = .ok (.ref A2.length) (A2 ++ [[C.bl x, .bl x, .bl y, .bl y]]) := a1
  generalize hA3 : A2 ++ [[C.bl x, .bl x, .bl y, .bl y]] = A3 at e3 e4 a1
  have m1 := mul2 (hh := A3 ++ [[C.bl x]]) (last_get A3 [C.bl x])
  generalize hA4 : A3 ++ [[C.bl x]] = A4 at e4 m1
  generalize hA5 : A4 ++ [[C.bl x, .bl x]] = A5 at e4 m1
  have m2 := mul2 (hh := A5 ++ [[C.bl y]]) (last_get A5 [C.bl y])
  generalize hA6 : A5 ++ [[C.bl y]] = A6 at m2
  generalize hA7 : A6 ++ [[C.bl y, .bl y]] = A7 at m2
  have a2 := add_ref (h := A7) (a := A4.length) (b := A6.length) (xs := [C.bl x, .bl x]) (ys := [C.bl y, .bl y]) (by rw [← hA7, ← hA6, ← hA5, List.getElem?_append_left (by simp), List.getElem?_append_left (by simp)]; exact last_get _ _) (by rw [← hA7]; exact last_get _ _) (by simp)
  have a2 : binop .add (.ref A4.length) (.ref A6.length) A7 = .ok (.ref A7.length) (A7 ++ [[C.bl x, .bl x, .bl y, .bl y]]) := a2
  have hJ : A7 ++ [[C.bl x, .bl x, .bl y, .bl y]] = h ++ junk x y := by rw [← hA7, ← hA6, ← hA5, ← hA4, ← hA3, ← hA2, ← hA1]; simp [junk]
  have r2 := rep4 x y (A7 ++ [[C.bl x, .bl x, .bl y, .bl y]]) A7.length (last_get _ _)
  have r1 := rep4 x y (A7 ++ [[C.bl x, .bl x, .bl y, .bl y]]) A2.length (by rw [← hA7, ← hA6, ← hA5, ← hA4, ← hA3, List.getElem?_append_left (by simp), List.getElem?_append_left (by simp), List.getElem?_append_left (by simp), List.getElem?_append_left (by simp), List.getElem?_append_left (by simp)]; exact last_get _ _)
  rw [hJ] at r1 r2 a2
  have n1 := ne_rep (d := .list [.bool x, .bool x, .bool y, .bool y]) rfl (h ++ junk x y)
  have n2 := ne_rep hd (h ++ junk x y)
  have gk : gK 0 1 [0] [] [c] = [c] := rfl
  refine ⟨.ref A2.length, .ref A7.length, ?_⟩
  simp only [LF, Ss.ev, S.ev, Hs.ev, E.ev, Es.ev, T.ev, Pt.put, Pts.put, Pts.len, Es.len, Oe.ev, It.ev, bind_ok, bind_err, bind_bad, th_ok, th_err, th_bad, nxth, retth, errth, badth, noerr_ok, fin_nx, fin_ret, fin_err, tidy_same, tidyX_same, List.getElem?_cons_zero, List.getElem?_cons_succ, List.set_cons_zero, List.set_cons_succ, e0, e1, gk, List.length_cons, List.length_nil, Nat.reduceAdd, l1, l2, if_true, hA1, e2, hA2, a1, hA3, e3, hA4, m1, hA5, e4, hA6, m2, hA7, a2, r1, r2, n1, e5, n2, Bool.false_eq_true, if_false]
theorem junk_cl (cl : ClH h) (x y : Bool) : ClH (h ++ junk x y) := by
  have e : h ++ junk x y = h ++ [[C.bl x, .bl x]] ++ [[.bl y, .bl y]] ++ [[.bl x, .bl x, .bl y, .bl y]] ++ [[.bl x]] ++ [[.bl x, .bl x]] ++ [[.bl y]] ++ [[.bl y, .bl y]] ++ [[.bl x, .bl x, .bl y, .bl y]] := by simp [junk]
  rw [e]
  exact cl_push (cl_push (cl_push (cl_push (cl_push (cl_push (cl_push (cl_push cl rfl) rfl) rfl) rfl) rfl) rfl) rfl) rfl
theorem VV.rep {k W : Nat} {c : C} (v : VV Q p h k W c) {dv : PyData} {h' : Hc} (g : Gd W dv) (d : Dt h' k c dv) (hk : k ≤ 30) (hW : W ≤ 8000) : bi .repr [c] h' = .ok (.rep dv) h' := by
  refine repr_of (d.d 60 (by omega)) ?_
  rw [g.s, d.shp hk, show shortD dv = true from decide_eq_true (Nat.le_trans g.w hW)]; rfl
/-- the body of the last loop -/
theorem val_run {k W : Nat} {c : C} (hk : k ≤ 30) (hW : W ≤ 8000) (hp : Pq Q h p) (cl : ClH h) (v : VV Q p h k W c) (d : Nat) (s0 s1 s2 s3 s4 s5 s7 s8 s9 s10 : Option C) :
    ∃ t7 t8 t9 J, ClH (h ++ J) ∧ Stq Q p h (h ++ J) ∧ Ss.ev (Rn (d + 5)) sub WH LF none [s0, s1, s2, s3, s4, s5, some c, s7, s8, s9, s10] h = .nx [s0, s1, s2, s3, s4, s5, some c, t7, t8, t9, s10] (h ++ J) := by
  obtain ⟨dv, g, hd⟩ := v.dt
  have mk : ∀ J : Hc, ClH (h ++ J) → Stq Q p h (h ++ J) := fun J c => ⟨by simp, fun m hm _ => List.getElem?_append_left hm, hp.app J, c⟩
  generalize hx : machB c = x
  generalize hy : tabB c = y
  have c1 : ClH (h ++ [[C.bl x, .bl x]]) := cl_push cl rfl
  have c2 : ClH (h ++ [[C.bl x, .bl x]] ++ [[.bl y, .bl y]]) := cl_push c1 rfl
  have c3 : ClH (h ++ [[C.bl x, .bl x]] ++ [[.bl y, .bl y]] ++ [[.bl x, .bl x, .bl y, .bl y]]) := cl_push c2 rfl
  have e1 := r4 d cl c v.ok
  have e2 := r6 (d + 1) c1 c
  have c3' := c3
  have d3 := hd (h ++ [[C.bl x, .bl x]] ++ [[.bl y, .bl y]] ++ [[.bl x, .bl x, .bl y, .bl y]]) (by
    rw [List.append_assoc, List.append_assoc] at c3' ⊢
    exact mk _ c3')
  have e3 := r13 (d + 1) c v.ok d3 hk
  have e4 := r14 (d + 2) (h ++ [[C.bl x, .bl x]] ++ [[.bl y, .bl y]] ++ [[.bl x, .bl x, .bl y, .bl y]] ++ [[.bl x]] ++ [[.bl x, .bl x]]) c
  rw [hx] at e1 e3
  rw [hy] at e2 e4
  have cj := junk_cl cl x y
  have e0 := v.rep g (hd h (.refl hp cl)) hk hW
  have e5 := v.rep g (hd _ (mk _ cj)) hk hW
  obtain ⟨t8, t9, e⟩ := val_ev (call := Rn (d + 5)) (sub := sub) (w := WH) (s0 := s0) (s1 := s1) (s2 := s2) (s3 := s3) (s4 := s4) (s5 := s5) (s7 := s7) (s8 := s8) (s9 := s9) (s10 := s10) g.n e0 e1 e2 e3 e4 e5
  exact ⟨_, _, _, _, cj, mk _ cj, e⟩
/-- the last loop -/
theorem vals_loop {n : Nat} {xs : List C} {k W : Nat} (hk : k ≤ 30) (hW : W ≤ 8000) (hp : Pq Q h p) (cl : ClH h) (hn : h[n]? = some xs) (hl : xs.length ≤ 1000) (v : ∀ c ∈ xs, VV Q p h k W c) (d : Nat) (s0 s1 s2 s3 s4 s5 s6 s7 s8 s9 s10 : Option C) :
    ∃ sl J, ClH (h ++ J) ∧ forF (.lst n) (Pt.put (Rn (d + 5)) sub WH none (.v 6)) (Ss.ev (Rn (d + 5)) sub WH LF none) WH 0 [s0, s1, s2, s3, s4, s5, s6, s7, s8, s9, s10] h = .nx sl (h ++ J) := by
  have g := forF_gen (it := .lst n) (n := xs.length) (el := fun i => xs.getD i .non) (g := Pt.put (Rn (d + 5)) sub WH none (.v 6)) (b := Ss.ev (Rn (d + 5)) sub WH LF none)
    (fun i sl h' => ∃ J t6 t7 t8 t9, h' = h ++ J ∧ ClH (h ++ J) ∧ Stq Q p h (h ++ J) ∧ sl = [s0, s1, s2, s3, s4, s5, t6, t7, t8, t9, s10])
    (fun i sl h' ⟨J, _, _, _, _, e, _⟩ hi => by
      subst e
      rw [at_lst (by rw [List.getElem?_append_left (List.getElem?_eq_some_iff.mp hn).1]; exact hn)]
      by_cases z : i < xs.length
      · rw [if_pos z, List.getElem?_eq_getElem z, List.getD_eq_getElem?_getD, List.getElem?_eq_getElem z]; rfl
      · rw [if_neg z, List.getElem?_eq_none (by omega)])
    (fun i sl h' ⟨J, t6, t7, t8, t9, e, c, s, es⟩ hi => by
      subst e es
      have e0 : xs.getD i .non = xs[i] := by rw [List.getD_eq_getElem?_getD, List.getElem?_eq_getElem hi]; rfl
      obtain ⟨u7, u8, u9, J2, c2, ss, e2⟩ := val_run hk hW s.pot c ((v _ (List.getElem_mem hi)).step s) d s0 s1 s2 s3 s4 s5 t7 t8 t9 s10
      refine ⟨[s0, s1, s2, s3, s4, s5, some xs[i], t7, t8, t9, s10], h ++ J, _, h ++ (J ++ J2), by rw [e0]; rfl, .inl (by rw [e2, List.append_assoc]), J ++ J2, _, _, _, _, rfl, by rw [← List.append_assoc]; exact c2, by rw [← List.append_assoc]; exact s.trans ss, rfl⟩)
    WH 0 [s0, s1, s2, s3, s4, s5, s6, s7, s8, s9, s10] h ⟨[], _, _, _, _, by simp, by simpa using cl, by simpa using Stq.refl hp cl, rfl⟩ (Nat.zero_le _) (by have := wh_big; omega)
  obtain ⟨sl, h', e, J, t6, t7, t8, t9, rfl, c, _, _⟩ := g
  exact ⟨sl, J, c, e⟩
end K39
set_option linter.all false
set_option autoImplicit false
set_option maxRecDepth 100000
set_option maxHeartbeats 16000000
namespace K39
open Sh PySem
variable {h : Hc} {p : Nat} {Q Q0 : Nat → Prop}
theorem VV.shift {k W : Nat} {c : C} {h' : Hc} (v : VV Q0 p h k W c) (q0 : Pq Q0 h p) (s : Stq Q0 p h h') (sb : ∀ m, m < h.length → Q m → Q0 m) : VV Q p h' k W c := by
  obtain ⟨dv, g, hd⟩ := v.dt
  refine ⟨⟨dv, g, fun h2 s2 => hd h2 ⟨Nat.le_trans s.len s2.len, fun m hm hq => ?_, ⟨s2.pot.pot, q0.q, fun m hm => ?_⟩, s2.cl⟩⟩, v.ok, fun n hn => v.un n (Nat.le_trans s.len hn)⟩
  · rw [s2.keep m (Nat.lt_of_lt_of_le hm s.len) fun z => hq (sb m hm z), s.keep m hm hq]
  · have := q0.lt' m hm
    have := s.len; have := s2.len; omega
structure Vs (Q : Nat → Prop) (p n : Nat) (h : Hc) (xs : List C) : Prop where
  pq : Pq Q h p
  cl : ClH h
  qn : Q n
  ne : n ≠ p
  at_ : h[n]? = some xs
  v : ∀ c ∈ xs, VV Q p h 9 3000 c
theorem Vs.lt {n : Nat} {xs : List C} (a : Vs Q p n h xs) : n < h.length := (List.getElem?_eq_some_iff.mp a.at_).1
theorem unders_of' {n : Nat} : ∀ {xs : List C}, (∀ c ∈ xs, C.under n c = true) → C.unders n xs = true
  | [], _ => rfl
  | x :: xs, hx => by
    show (C.under n x && C.unders n xs) = true
    rw [hx x (by simp), unders_of' fun c hc => hx c (by simp [hc])]; rfl
theorem Vs.app {n : Nat} {xs : List C} (a : Vs Q p n h xs) {c : C} (v : VV Q p h 9 3000 c) : Vs Q p n (h.set n (xs ++ [c])) (xs ++ [c]) := by
  have all : ∀ x ∈ xs ++ [c], VV Q p h 9 3000 x := fun x hx => by
    rcases List.mem_append.mp hx with hx | hx
    · exact a.v x hx
    · rw [List.mem_singleton.mp hx]; exact v
  have cl : ClH (h.set n (xs ++ [c])) := cl_set a.cl (unders_of' fun x hx => (all x hx).un _ (Nat.le_refl _))
  have pq : Pq Q (h.set n (xs ++ [c])) p := by
    obtain ⟨L, e, q⟩ := a.pq.pot
    exact ⟨⟨L, by rw [List.getElem?_set_ne a.ne]; exact e, q⟩, a.pq.q, fun m hm => by rw [List.length_set]; exact a.pq.lt' m hm⟩
  have s : Stq Q p h (h.set n (xs ++ [c])) := ⟨by simp, fun m hm hq => List.getElem?_set_ne fun e => hq (by rw [← e]; exact a.qn), pq, cl⟩
  exact ⟨pq, cl, a.qn, a.ne, List.getElem?_set_self a.lt, fun x hx => (all x hx).step s⟩
theorem Vs.walk {n : Nat} {xs : List C} {h' : Hc} (a : Vs Q p n h xs) (s : Stq Q p h h') (e : h'[n]? = some xs) : Vs Q p n h' xs := ⟨s.pot, s.cl, a.qn, a.ne, e, fun c hc => (a.v c hc).step s⟩
/-! ### machine and table bent -/
/-- a value without lists -/
def Free (k W : Nat) (c : C) : Prop := ∀ (Q : Nat → Prop) (p : Nat) (h : Hc), VV Q p h k W c
theorem bent10 {n : Nat} {xs : List C} {c : C} {k : Nat} (hk : 1 ≤ k) (hk2 : k ≤ 3) (f : Free k 180 c) (a : Vs Q p n h xs) {D : Nat} (hD : D ≤ 3) : ∃ c2 h2, VV Q p h2 9 3000 c2 ∧ Vs Q p n h2 xs ∧ Rn 10 18 [.ref p, c, .int (D : Int)] h = .ok c2 h2 := by
  obtain ⟨c2, h2, r, e⟩ := bent_run (Q := Q) (6 - D) hk (by omega) (W := 180) (by omega) D hD a.pq a.cl (f Q p h)
  have q0 : Pq (fun m => m = p) h p := ⟨a.pq.pot, rfl, fun m hm => by rw [hm]; exact a.pq.lt⟩
  obtain ⟨c3, h3, r', e'⟩ := bent_run (Q := fun m => m = p) (6 - D) hk (by omega) (W := 180) (by omega) D hD q0 a.cl (f _ p h)
  rw [e] at e'
  injection e' with e1 e2
  subst e1 e2
  rw [show 6 - D + D + 4 = 10 by omega] at e
  exact ⟨c2, h2, r.v.mono (by omega) (by unfold fW; have : D * (2 * 180 + 1) ≤ 3 * (2 * 180 + 1) := Nat.mul_le_mul_right _ hD; omega), a.walk r.s (by rw [r'.s.keep n a.lt a.ne]; exact a.at_), e⟩
def LB19 : Ss := (.cons (.app (.var 4) (.call 18 (.cons (.var 0) (.cons (.var 1) (.cons (.bin .add (.con (.int 1)) (.call 8 (.cons (.var 0) (.cons (.con (.int 3)) .nil)))) .nil))))) (.cons (.app (.var 4) (.call 18 (.cons (.var 0) (.cons (.var 2) (.cons (.bin .add (.con (.int 1)) (.call 8 (.cons (.var 0) (.cons (.con (.int 2)) .nil)))) .nil))))) .nil))
theorem app_bent {n : Nat} {xs : List C} {c : C} {k many i : Nat} (hi : i = 1 ∨ i = 2) (hk : 1 ≤ k) (hk2 : k ≤ 3) (f : Free k 180 c) (a : Vs Q p n h xs) (hl : xs.length ≤ 100) (h1 : 1 ≤ many) (h2 : many ≤ 3) {sl : Sl} (g0 : sl[0]? = some (some (.ref p))) (gi : sl[i]? = some (some c)) (g4 : sl[4]? = some (some (.ref n))) :
    ∃ c2 h2, Vs Q p n h2 (xs ++ [c2]) ∧ S.ev (Rn 10) sub WH (.app (.var 4) (.call 18 (.cons (.var 0) (.cons (.var i) (.cons (.bin .add (.con (.int 1)) (.call 8 (.cons (.var 0) (.cons (.con (.int (many : Int))) .nil)))) .nil))))) none sl h = .nx sl h2 := by
  obtain ⟨j, u1, hj, n1, e1⟩ := draw2q 9 a.pq (many : Int) (by omega) (by omega)
  have a1 : Vs Q p n u1 xs := a.walk (.nx a.pq a.cl n1) (by rw [n1.get a.ne]; exact a.at_)
  obtain ⟨c2, u2, v, a2, e2⟩ := bent10 hk hk2 f a1 (D := 1 + j) (by omega)
  refine ⟨c2, _, a2.app v, ?_⟩
  have cj : (1 : Int) + (j : Int) = ((1 + j : Nat) : Int) := by omega
  refine app_ev (call := Rn 10) (sub := sub) (w := WH) (h := h) (h1 := h) (h2 := u2) (n := n) (xs := xs) (y := c2) ?_ ?_ a2.at_ (by omega)
  · simp only [Ss.ev, S.ev, Hs.ev, E.ev, Es.ev, T.ev, Pt.put, Pts.put, Pts.len, Es.len, Oe.ev, It.ev, bind_ok, bind_err, bind_bad, th_ok, th_err, th_bad, nxth, retth, errth, badth, noerr_ok, fin_nx, fin_ret, fin_err, tidy_same, tidyX_same, List.getElem?_cons_zero, List.getElem?_cons_succ, List.set_cons_zero, List.set_cons_succ, g4]
  · rcases hi with rfl | rfl <;> simp only [Ss.ev, S.ev, Hs.ev, E.ev, Es.ev, T.ev, Pt.put, Pts.put, Pts.len, Es.len, Oe.ev, It.ev, bind_ok, bind_err, bind_bad, th_ok, th_err, th_bad, nxth, retth, errth, badth, noerr_ok, fin_nx, fin_ret, fin_err, tidy_same, tidyX_same, List.getElem?_cons_zero, List.getElem?_cons_succ, List.set_cons_zero, List.set_cons_succ, g0, gi, e1, add_int, cj, e2]
theorem bents_loop {n : Nat} {xs : List C} {M T : C} (fM : Free 3 180 M) (fT : Free 2 180 T) (a : Vs Q p n h xs) (hl : xs.length = 7) (s3 s5 s6 s7 s8 s9 s10 : Option C) :
    ∃ ys h' s5', Vs Q p n h' ys ∧ ys.length = 19 ∧ forF (.rng 0 6) (Pt.put (Rn 10) sub WH none (.v 5)) (Ss.ev (Rn 10) sub WH LB19 none) WH 0 [some (.ref p), some M, some T, s3, some (.ref n), s5, s6, s7, s8, s9, s10] h = .nx [some (.ref p), some M, some T, s3, some (.ref n), s5', s6, s7, s8, s9, s10] h' := by
  have g := forF_gen (it := .rng 0 6) (n := 6) (el := fun i => .int (0 + (i : Int))) (g := Pt.put (Rn 10) sub WH none (.v 5)) (b := Ss.ev (Rn 10) sub WH LB19 none)
    (fun i sl h' => ∃ ys s5', Vs Q p n h' ys ∧ ys.length = 7 + 2 * i ∧ sl = [some (.ref p), some M, some T, s3, some (.ref n), s5', s6, s7, s8, s9, s10])
    (fun i sl h' _ _ => at_rng 0 6 i h')
    (fun i sl h' ⟨ys, s5', v, l, es⟩ hi => by
      subst es
      obtain ⟨c1, u1, v1, e1⟩ := app_bent (many := 3) (i := 1) (.inl rfl) (by decide) (by decide) fM v (by omega) (by decide) (by decide) (sl := [some (.ref p), some M, some T, s3, some (.ref n), some (.int (0 + (i : Int))), s6, s7, s8, s9, s10]) rfl rfl rfl
      obtain ⟨c2, u2, v2, e2⟩ := app_bent (many := 2) (i := 2) (.inr rfl) (by decide) (by decide) fT v1 (by simp; omega) (by decide) (by decide) (sl := [some (.ref p), some M, some T, s3, some (.ref n), some (.int (0 + (i : Int))), s6, s7, s8, s9, s10]) rfl rfl rfl
      have e1 : S.ev (Rn 10) sub WH (.app (.var 4) (.call 18 (.cons (.var 0) (.cons (.var 1) (.cons (.bin .add (.con (.int 1)) (.call 8 (.cons (.var 0) (.cons (.con (.int 3)) .nil)))) .nil))))) none [some (.ref p), some M, some T, s3, some (.ref n), some (.int (0 + (i : Int))), s6, s7, s8, s9, s10] h' = _ := e1
      have e2 : S.ev (Rn 10) sub WH (.app (.var 4) (.call 18 (.cons (.var 0) (.cons (.var 2) (.cons (.bin .add (.con (.int 1)) (.call 8 (.cons (.var 0) (.cons (.con (.int 2)) .nil)))) .nil))))) none [some (.ref p), some M, some T, s3, some (.ref n), some (.int (0 + (i : Int))), s6, s7, s8, s9, s10] u1 = _ := e2
      have b : Ss.ev (Rn 10) sub WH LB19 none [some (.ref p), some M, some T, s3, some (.ref n), some (.int (0 + (i : Int))), s6, s7, s8, s9, s10] h' = .nx [some (.ref p), some M, some T, s3, some (.ref n), some (.int (0 + (i : Int))), s6, s7, s8, s9, s10] u2 := by
        rw [LB19, ss_cons, e1, nxth, ss_cons, e2, nxth, ss_nil]
      exact ⟨_, h', _, u2, rfl, .inl b, _, _, v2, by simp; omega, rfl⟩)
    WH 0 [some (.ref p), some M, some T, s3, some (.ref n), s5, s6, s7, s8, s9, s10] h ⟨xs, _, a, by omega, rfl⟩ (Nat.zero_le _) (by have := wh_big; omega)
  obtain ⟨sl, h', e, ys, s5', v, l, rfl⟩ := g
  exact ⟨ys, h', s5', v, l, e⟩
/-! ### the two great values -/
def bigM (m : Nat) : C := .tup [.str "machine", .int 1, .tup ((List.range m).map fun (i : Nat) => .tup [.int 0, .int 0, .int (1 + (0 + (i : Int))), .int 1])]
def bigT (k : Nat) : C := .tup (List.replicate k (.tup (List.replicate k (.int 0))))
theorem bigM_free {m : Nat} (hm : m ≤ 61) : Free 9 3000 (bigM m) := fun Q p h => by
  have rows : VVs Q p h 1 (((List.range m).map fun (i : Nat) => C.tup [.int 0, .int 0, .int (1 + (0 + (i : Int))), .int 1]).length * (36 + 1)) ((List.range m).map fun (i : Nat) => C.tup [.int 0, .int 0, .int (1 + (0 + (i : Int))), .int 1]) := vvs_all h _ fun x hx => by
    obtain ⟨i, hi, rfl⟩ := List.mem_map.mp hx
    have := List.mem_range.mp hi
    refine VVs.tup (by simp) ((vvs_all (k := 0) (W := 8) h _ fun c hc => ?_).mono (Nat.le_refl _) (by simp))
    simp only [List.mem_cons, List.not_mem_nil, or_false] at hc
    rcases hc with rfl | rfl | rfl | rfl <;> exact small_vv h (by omega)
  have rt := VVs.tup (by simp; omega) rows
  refine (VVs.tup (by simp) (VVs.cons (VV.str (k := 2) (by decide +kernel)) (VVs.cons (small_vv (k := 2) h (i := 1) (by omega)) (VVs.cons rt .nil)))).mono (by omega) ?_
  rw [show (("machine" : Str)).cps.size = 7 by decide +kernel]
  simp; omega
theorem bigT_free {k : Nat} (hk : k ≤ 13) : Free 9 3000 (bigT k) := fun Q p h => by
  have row : VV Q p h 1 (k * 9) (.tup (List.replicate k (.int 0))) := VVs.tup (by simp; omega) ((vvs_all (k := 0) (W := 8) h (List.replicate k (.int 0)) fun c hc => by rw [(List.mem_replicate.mp hc).2]; exact small_vv h (by omega)).mono (Nat.le_refl _) (by simp))
  refine (VVs.tup (by simp; omega) (vvs_all (k := 1) (W := k * 9) h (List.replicate k (.tup (List.replicate k (.int 0)))) fun c hc => by rw [(List.mem_replicate.mp hc).2]; exact row)).mono (by omega) ?_
  rw [List.length_replicate]
  have : k * (k * 9 + 1) ≤ 13 * (13 * 9 + 1) := Nat.mul_le_mul hk (by omega)
  omega
end K39
set_option linter.all false
set_option autoImplicit false
set_option maxRecDepth 100000
set_option maxHeartbeats 16000000
namespace K39
open Sh PySem
variable {h : Hc} {p : Nat} {Q Q0 : Nat → Prop}
def CR : E := (.tup (.cons (.con (.int 0)) (.cons (.con (.int 0)) (.cons (.bin .add (.con (.int 1)) (.var 10)) (.cons (.con (.int 1)) .nil)))))
def EM : E := (.tup (.cons (.con (.str "machine")) (.cons (.con (.int 1)) (.cons (.bi .tuple (.cons (.comp CR (.v 10) (.rng1 (.var 3)) .yes) .nil)) .nil))))
def ET : E := (.bin .mul (.tup (.cons (.bin .mul (.tup (.cons (.con (.int 0)) .nil)) (.bin .sub (.var 3) (.con (.int 48)))) .nil)) (.bin .sub (.var 3) (.con (.int 48))))
def Q1 : S := .par 1 2 (.call 15 (.cons (.var 0) .nil)) (.call 16 (.cons (.var 0) .nil))
def Q2 : S := .ifs (.or (.cmp .isn (.call 4 (.cons (.var 1) .nil)) (.con (.bl true))) (.cmp .isn (.call 6 (.cons (.var 2) .nil)) (.con (.bl true)))) (.cons (.ret (.con (.bl false))) .nil) .nil
def Q3 : S := .asg (.v 3) (.call 9 (.cons (.var 0) (.cons (.lst (.cons (.con (.int 59)) (.cons (.con (.int 60)) (.cons (.con (.int 61)) .nil)))) .nil)))
def Q4 : S := .asg (.v 4) (.lst (.cons (.var 1) (.cons (.var 2) (.cons (.tup .nil) (.cons (.con .non) (.cons (.call 17 (.cons (.var 0) .nil)) .nil))))))
theorem b19_is : b19 = (.cons Q1 (.cons Q2 (.cons Q3 (.cons Q4 (.cons (.app (.var 4) EM) (.cons (.app (.var 4) ET) (.cons (.for_ (.v 5) (.rng1 (.con (.int 6))) LB19) (.cons (.for_ (.v 6) (.seq (.var 4)) LF) (.cons (.ret (.con (.bl true))) .nil))))))))) := rfl
section
variable {call : Nat → List C → Hc → R C} {sub : Nat → Str → Option Bool} {w : Nat}
theorem q1_ev {M U : C} {h1 h2 : Hc} (e1 : call 15 [.ref p] h = .ok M h1) (e2 : call 16 [.ref p] h1 = .ok U h2) : S.ev call sub w Q1 none [some (.ref p), none, none, none, none, none, none, none, none, none, none] h = .nx [some (.ref p), some M, some U, none, none, none, none, none, none, none, none] h2 := by
  simp only [Q1, Ss.ev, S.ev, Hs.ev, E.ev, Es.ev, T.ev, Pt.put, Pts.put, Pts.len, Es.len, Oe.ev, It.ev, bind_ok, bind_err, bind_bad, th_ok, th_err, th_bad, nxth, retth, errth, badth, noerr_ok, fin_nx, fin_ret, fin_err, tidy_same, tidyX_same, List.getElem?_cons_zero, List.getElem?_cons_succ, List.set_cons_zero, List.set_cons_succ, e1, e2]
theorem q2_ev {M U : C} {s0 : Option C} (e1 : call 4 [M] h = .ok (.bl true) h) (e2 : call 6 [U] h = .ok (.bl true) h) : S.ev call sub w Q2 none [s0, some M, some U, none, none, none, none, none, none, none, none] h = .nx [s0, some M, some U, none, none, none, none, none, none, none, none] h := by
  have e : cmpop .isn (.bl true) (.bl true) h = .ok (.bl false) h := rfl
  simp only [Q2, Ss.ev, S.ev, Hs.ev, E.ev, Es.ev, T.ev, Pt.put, Pts.put, Pts.len, Es.len, Oe.ev, It.ev, bind_ok, bind_err, bind_bad, th_ok, th_err, th_bad, nxth, retth, errth, badth, noerr_ok, fin_nx, fin_ret, fin_err, tidy_same, tidyX_same, List.getElem?_cons_zero, List.getElem?_cons_succ, List.set_cons_zero, List.set_cons_succ, e1, e2, e, Bool.false_eq_true, if_false]
theorem q3_ev {M U c : C} {h1 : Hc} (e1 : call 9 [.ref p, .ref h.length] (h ++ [[.int 59, .int 60, .int 61]]) = .ok c h1) : S.ev call sub w Q3 none [some (.ref p), some M, some U, none, none, none, none, none, none, none, none] h = .nx [some (.ref p), some M, some U, some c, none, none, none, none, none, none, none] h1 := by
  have l3 : (3 : Nat) ≤ lineN := by decide
  simp only [Q3, Ss.ev, S.ev, Hs.ev, E.ev, Es.ev, T.ev, Pt.put, Pts.put, Pts.len, Es.len, Oe.ev, It.ev, bind_ok, bind_err, bind_bad, th_ok, th_err, th_bad, nxth, retth, errth, badth, noerr_ok, fin_nx, fin_ret, fin_err, tidy_same, tidyX_same, List.getElem?_cons_zero, List.getElem?_cons_succ, List.set_cons_zero, List.set_cons_succ, List.length_cons, List.length_nil, Nat.reduceAdd, l3, if_true, e1]
theorem q4_ev {M U c o : C} {h1 : Hc} (e1 : call 17 [.ref p] h = .ok o h1) : S.ev call sub w Q4 none [some (.ref p), some M, some U, some c, none, none, none, none, none, none, none] h = .nx [some (.ref p), some M, some U, some c, some (.ref h1.length), none, none, none, none, none, none] (h1 ++ [[M, U, .tup [], .non, o]]) := by
  have l5 : (5 : Nat) ≤ lineN := by decide
  have l0 : (0 : Nat) ≤ lineN := by decide
  simp only [Q4, Ss.ev, S.ev, Hs.ev, E.ev, Es.ev, T.ev, Pt.put, Pts.put, Pts.len, Es.len, Oe.ev, It.ev, bind_ok, bind_err, bind_bad, th_ok, th_err, th_bad, nxth, retth, errth, badth, noerr_ok, fin_nx, fin_ret, fin_err, tidy_same, tidyX_same, List.getElem?_cons_zero, List.getElem?_cons_succ, List.set_cons_zero, List.set_cons_succ, List.length_cons, List.length_nil, Nat.reduceAdd, l5, l0, if_true, e1]
theorem em_ev {m : Nat} (hm : m ≤ 61) (hw : 1000 < w) (s0 s1 s2 s4 s5 s6 s7 s8 s9 s10 : Option C) : ∃ Y : List C, C.unders (h.length + 1) Y = true ∧ E.ev call sub w none EM [s0, s1, s2, some (.int (m : Int)), s4, s5, s6, s7, s8, s9, s10] h = .ok (bigM m) (h ++ [Y]) := by
  have cm := compF_map (it := .rng 0 m) (n := m) (el := fun i => .int (0 + (i : Int))) (ev := fun (i : Nat) => C.tup [.int 0, .int 0, .int (1 + (0 + (i : Int))), .int 1]) (h := h)
    (g := fun c sl h => Pt.put call sub w none (.v 10) c sl h) (t := fun sl h => T.ev call sub w none .yes sl h) (e := fun sl h => E.ev call sub w none CR sl h) (sl := [s0, s1, s2, some (.int (m : Int)), s4, s5, s6, s7, s8, s9, none]) (by omega)
    (fun i hi => at_rng _ _ _ _)
    (fun i hi => by
      have l4 : (4 : Nat) ≤ lineN := by decide
      refine ⟨[s0, s1, s2, some (.int (m : Int)), s4, s5, s6, s7, s8, s9, some (.int (0 + (i : Int)))], rfl, rfl, ?_⟩
      simp only [CR, Ss.ev, S.ev, Hs.ev, E.ev, Es.ev, T.ev, Pt.put, Pts.put, Pts.len, Es.len, Oe.ev, It.ev, bind_ok, bind_err, bind_bad, th_ok, th_err, th_bad, nxth, retth, errth, badth, noerr_ok, fin_nx, fin_ret, fin_err, tidy_same, tidyX_same, List.getElem?_cons_zero, List.getElem?_cons_succ, List.set_cons_zero, List.set_cons_succ, add_int, List.length_cons, List.length_nil, Nat.reduceAdd, l4, if_true])
    w (by omega)
  have i1 : It.ev call sub w none (.rng1 (.var 3)) [s0, s1, s2, some (.int (m : Int)), s4, s5, s6, s7, s8, s9, s10] h = .ok (.rng 0 m) h := it_rng1 rfl (by omega)
  have l3 : (3 : Nat) ≤ lineN := by decide
  refine ⟨(List.range m).map fun (i : Nat) => C.tup [.int 0, .int 0, .int (1 + (0 + (i : Int))), .int 1], ?_, ?_⟩
  · generalize List.range m = l
    induction l with
    | nil => rfl
    | cons a l ih => exact ih
  · have tr := tuple_ref (last_get h ((List.range m).map fun (i : Nat) => C.tup [.int 0, .int 0, .int (1 + (0 + (i : Int))), .int 1]))
    have ec : E.ev call sub w none (.comp CR (.v 10) (.rng1 (.var 3)) .yes) [s0, s1, s2, some (.int (m : Int)), s4, s5, s6, s7, s8, s9, s10] h = .ok (.ref h.length) (h ++ [(List.range m).map fun (i : Nat) => C.tup [.int 0, .int 0, .int (1 + (0 + (i : Int))), .int 1]]) := by
      rw [E.ev, i1, bind_ok]
      rw [show Pt.wipe (.v 10) [s0, s1, s2, some (.int (m : Int)), s4, s5, s6, s7, s8, s9, s10] = [s0, s1, s2, some (.int (m : Int)), s4, s5, s6, s7, s8, s9, none] from rfl, cm]
      rfl
    unfold bigM
    generalize hY : (List.range m).map (fun (i : Nat) => C.tup [.int 0, .int 0, .int (1 + (0 + (i : Int))), .int 1]) = Y at tr ec ⊢
    have et : E.ev call sub w none (.bi .tuple (.cons (.comp CR (.v 10) (.rng1 (.var 3)) .yes) .nil)) [s0, s1, s2, some (.int (m : Int)), s4, s5, s6, s7, s8, s9, s10] h = .ok (.tup Y) (h ++ [Y]) := by
      rw [E.ev, Es.ev, ec, bind_ok, Es.ev, bind_ok, bind_ok, tr]
    unfold EM
    generalize (E.bi .tuple (.cons (.comp CR (.v 10) (.rng1 (.var 3)) .yes) .nil)) = eb at et
    rw [E.ev, Es.ev, E.ev, bind_ok, Es.ev, E.ev, bind_ok, Es.ev, et, bind_ok, Es.ev, bind_ok, bind_ok, bind_ok, bind_ok]
    exact if_pos l3
theorem mul_t {k : Nat} (h : Hc) (c : C) (h2 : 2 ≤ k) (h3 : k ≤ 1000) : binop .mul (.tup [c]) (.int (k : Int)) h = .ok (.tup (List.replicate k c)) h := by
  show (if ([c] : List C) = [] ∨ (k : Int) < 2 ∨ 1000 < (k : Int) ∨ 1000 < ([c] : List C).length then R.bad else R.ok (C.tup (List.replicate (k : Int).toNat [c]).flatten) h) = _
  have n : ¬ (([c] : List C) = [] ∨ (k : Int) < 2 ∨ 1000 < (k : Int) ∨ 1000 < ([c] : List C).length) := by simp; omega
  rw [if_neg n]
  have e : ∀ n : Nat, (List.replicate n [c]).flatten = List.replicate n c := fun n => by
    induction n with
    | zero => rfl
    | succ n ih => rw [List.replicate_succ, List.flatten_cons, ih]; rfl
  rw [show (k : Int).toNat = k by omega, e]
theorem et_ev {m : Nat} (h1 : 59 ≤ m) (hm : m ≤ 61) (s0 s1 s2 s4 s5 s6 s7 s8 s9 s10 : Option C) : E.ev call sub w none ET [s0, s1, s2, some (.int (m : Int)), s4, s5, s6, s7, s8, s9, s10] h = .ok (bigT (m - 48)) h := by
  have l1 : (1 : Nat) ≤ lineN := by decide
  have k : ((m : Int) - 48) = ((m - 48 : Nat) : Int) := by omega
  have m1 := mul_t (k := m - 48) h (.int 0) (by omega) (by omega)
  have m2 := mul_t (k := m - 48) h (.tup (List.replicate (m - 48) (.int 0))) (by omega) (by omega)
  simp only [ET, Ss.ev, S.ev, Hs.ev, E.ev, Es.ev, T.ev, Pt.put, Pts.put, Pts.len, Es.len, Oe.ev, It.ev, bind_ok, bind_err, bind_bad, th_ok, th_err, th_bad, nxth, retth, errth, badth, noerr_ok, fin_nx, fin_ret, fin_err, tidy_same, tidyX_same, List.getElem?_cons_zero, List.getElem?_cons_succ, List.set_cons_zero, List.set_cons_succ, List.length_cons, List.length_nil, Nat.reduceAdd, l1, if_true, sub_i, k, m1, m2]
  rfl
end
theorem tidy_x (h hh : Hc) (b : Bool) : ∃ h2, tidy h.length (.bl b) hh = .ok (.bl b) h2 := by
  unfold tidy
  split <;> exact ⟨_, rfl⟩
theorem r19 (hp : PotAt h p) (cl : ClH h) : ∃ h', Rn 11 19 [.ref p] h = .ok (.bl true) h' := by
  obtain ⟨P, L, h1, hP1, hP2, gl, n1, e1⟩ := r15 8 hp cl
  have cl1 := n1.closed cl
  obtain ⟨P2, rows, h2, hT1, hT2, tr, n2, e2⟩ := r16 8 (n1.pot hp) cl1
  have cl2 := n2.closed cl1
  have fM : Free 3 180 (machOf P L) := fun Q p h => mach_vv gl (by omega) (by omega) h
  have fT : Free 2 180 (tabOf rows) := fun Q p h => tab_vv tr hT2 h
  have m1 := r4 5 cl2 (machOf P L) (fM (fun _ => True) 0 h2).ok
  rw [mach_ok gl (by omega) (by omega) (by decide)] at m1
  have m2 := r6 6 cl2 (tabOf rows)
  rw [tab_ok tr hT1 (by omega)] at m2
  have q0 : Pq (fun m => m = p) h2 p := ⟨n2.pot (n1.pot hp), rfl, fun m hm => by rw [hm]; exact (n2.pot (n1.pot hp)).lt⟩
  obtain ⟨c, h3, hc, _, s3, e3⟩ := pick_new (xs := [.int 59, .int 60, .int 61]) 8 q0 cl2 rfl (by decide) (by decide)
  have hm : ∃ m : Nat, c = .int (m : Int) ∧ 59 ≤ m ∧ m ≤ 61 := by
    simp only [List.mem_cons, List.not_mem_nil, or_false] at hc
    rcases hc with rfl | rfl | rfl
    · exact ⟨59, rfl, by decide, by decide⟩
    · exact ⟨60, rfl, by decide, by decide⟩
    · exact ⟨61, rfl, by decide, by decide⟩
  obtain ⟨m, rfl, hm1, hm2⟩ := hm
  obtain ⟨o, h4, o4, e4⟩ := odd_run 7 s3.pot s3.cl
  have r4' := o4.rs (.refl s3.pot s3.cl)
  have s4 := r4'.s
  -- the values
  have hltp : p < h4.length := s4.pot.lt
  have qs : ∀ m, m < h4.length → (m = p ∨ m = h4.length) → m = p := fun m hm hq => by
    rcases hq with hq | hq
    · exact hq
    · omega
  have s5 : Stq (fun m => m = p) p h4 (h4 ++ [[machOf P L, tabOf rows, .tup [], .non, o]]) := (Stq.refl s4.pot s4.cl).push (by
    show (C.under _ (machOf P L) && (C.under _ (tabOf rows) && (true && (true && (C.under _ o && true))))) = true
    rw [mach_nr gl, tab_nr, r4'.v.un _ (Nat.le_succ _)]; rfl)
  have vs5 : Vs (fun m => m = p ∨ m = h4.length) p h4.length (h4 ++ [[machOf P L, tabOf rows, .tup [], .non, o]]) [machOf P L, tabOf rows, .tup [], .non, o] := by
    refine ⟨⟨s5.pot.pot, .inl rfl, fun m hm => ?_⟩, s5.cl, .inr rfl, by omega, last_get _ _, fun x hx => ?_⟩
    · rw [List.length_append]; simp only [List.length_cons, List.length_nil]; rcases hm with hm | hm <;> omega
    · simp only [List.mem_cons, List.not_mem_nil, or_false] at hx
      rcases hx with rfl | rfl | rfl | rfl | rfl
      · exact (fM _ _ _).mono (by omega) (by omega)
      · exact (fT _ _ _).mono (by omega) (by omega)
      · exact (VVs.tup (k := 0) (by simp) VVs.nil).mono (by omega) (by omega)
      · exact (VV.non (k := 0)).mono (by omega) (by omega)
      · exact (r4'.v.shift s4.pot s5 qs).mono (by omega) (by omega)
  have q1 := q1_ev (sub := sub) (w := WH) e1 e2
  have q2 := q2_ev (sub := sub) (w := WH) (s0 := some (.ref p)) m1 m2
  have q3 := q3_ev (sub := sub) (w := WH) (M := machOf P L) (U := tabOf rows) e3
  have q4 := q4_ev (sub := sub) (w := WH) (M := machOf P L) (U := tabOf rows) (c := .int (m : Int)) e4
  generalize h4 ++ [[machOf P L, tabOf rows, .tup [], .non, o]] = h5 at vs5 s5 q4
  generalize h4.length = n at vs5 q4
  generalize (fun m => m = p ∨ m = n) = Q at vs5
  obtain ⟨Y, uY, e6⟩ := em_ev (h := h5) (call := Rn 10) (sub := sub) (w := WH) hm2 wh_big (some (.ref p)) (some (machOf P L)) (some (tabOf rows)) (some (.ref n)) none none none none none none
  have vs6 : Vs Q p n (h5 ++ [Y]) [machOf P L, tabOf rows, .tup [], .non, o] := vs5.walk ((Stq.refl vs5.pq vs5.cl).push uY) (by rw [List.getElem?_append_left vs5.lt]; exact vs5.at_)
  have a6 := app_ev (call := Rn 10) (sub := sub) (w := WH) (cx := none) (o := .var 4) (e := EM) (sl := [some (.ref p), some (machOf P L), some (tabOf rows), some (.int (m : Int)), some (.ref n), none, none, none, none, none, none]) (h := h5) (h1 := h5) (h2 := h5 ++ [Y]) (n := n) rfl e6 vs6.at_ (by simp)
  have vs7 := vs6.app (bigM_free hm2 Q p _)
  generalize (h5 ++ [Y]).set n ([machOf P L, tabOf rows, .tup [], .non, o] ++ [bigM m]) = h7 at a6 vs7
  have e7 := et_ev (h := h7) (call := Rn 10) (sub := sub) (w := WH) hm1 hm2 (some (.ref p)) (some (machOf P L)) (some (tabOf rows)) (some (.ref n)) none none none none none none
  have a7 := app_ev (call := Rn 10) (sub := sub) (w := WH) (cx := none) (o := .var 4) (e := ET) (sl := [some (.ref p), some (machOf P L), some (tabOf rows), some (.int (m : Int)), some (.ref n), none, none, none, none, none, none]) (h := h7) (h1 := h7) (h2 := h7) (n := n) rfl e7 vs7.at_ (by simp)
  have vs8 := vs7.app (bigT_free (k := m - 48) (by omega) Q p _)
  obtain ⟨ys, h9, s5', vs9, hl9, e9⟩ := bents_loop fM fT vs8 (by simp) (some (.int (m : Int))) none none none none none none
  obtain ⟨sl, J, cj, e10⟩ := vals_loop (k := 9) (W := 3000) (by omega) (by omega) vs9.pq vs9.cl vs9.at_ (by omega) vs9.v 5 (some (.ref p)) (some (machOf P L)) (some (tabOf rows)) (some (.int (m : Int))) (some (.ref n)) s5' none none none none none
  have i9 : It.ev (Rn 10) sub WH none (.rng1 (.con (.int 6))) [some (.ref p), some (machOf P L), some (tabOf rows), some (.int (m : Int)), some (.ref n), none, none, none, none, none, none] (h7.set n ([machOf P L, tabOf rows, .tup [], .non, o] ++ [bigM m] ++ [bigT (m - 48)])) = .ok (.rng 0 6) (h7.set n ([machOf P L, tabOf rows, .tup [], .non, o] ++ [bigM m] ++ [bigT (m - 48)])) := it_rng1 (n := 6) rfl (by omega)
  have i10 : It.ev (Rn 10) sub WH none (.seq (.var 4)) [some (.ref p), some (machOf P L), some (tabOf rows), some (.int (m : Int)), some (.ref n), s5', none, none, none, none, none] h9 = .ok (.lst n) h9 := rfl
  obtain ⟨hz, t⟩ := tidy_x h (h9 ++ J) true
  refine ⟨hz, ?_⟩
  have rt : S.ev (Rn 10) sub WH (.ret (.con (.bl true))) none sl (h9 ++ J) = .ret (.bl true) (h9 ++ J) := rfl
  rw [u19, b19_is, ss_cons, q1, nxth, ss_cons, q2, nxth, ss_cons, q3, nxth, ss_cons, q4, nxth, ss_cons, a6, nxth, ss_cons, a7, nxth, ss_cons, s_for i9 e9, nxth, ss_cons, s_for i10 e10, nxth, ss_cons, rt, retth, fin_ret]
  exact t
theorem law_run (ns : List Int) : ∃ h', run G sub WH 12 20 [.frz (iZ ns)] [] = .ok (.bl true) h' := by
  have cl0 : ClH ([] : Hc) := rfl
  obtain ⟨p, h1, p1, cl1, e1⟩ := pot_run 10 [] ns cl0
  have e1 : Rn 11 7 [.frz (iZ ns), .int 0] [] = .ok (.ref p) h1 := e1
  obtain ⟨h2, e2⟩ := r19 p1 cl1
  obtain ⟨h4, t⟩ := tidy_x [] h2 true
  refine ⟨h4, ?_⟩
  show Rn 12 20 [.frz (iZ ns)] [] = .ok (.bl true) h4
  rw [u20]
  simp only [b20, Ss.ev, S.ev, Hs.ev, E.ev, Es.ev, T.ev, Pt.put, Pts.put, Pts.len, Es.len, Oe.ev, It.ev, bind_ok, bind_err, bind_bad, th_ok, th_err, th_bad, nxth, retth, errth, badth, noerr_ok, fin_nx, fin_ret, fin_err, tidy_same, tidyX_same, List.getElem?_cons_zero, List.getElem?_cons_succ, List.set_cons_zero, List.set_cons_succ, e1, e2, t]
theorem plain (ns : List Int) (_ : ns.length ≤ 63) : ∃ h', run (fnsOf its) sub WH DP 20 [.frz (ns.map C.int)] [] = .ok (.bl true) h' := law_run ns
end K39
open PySem PySem.W PyProof.Rows
set_option maxRecDepth 100000 in
set_option maxHeartbeats 0 in
theorem PySem.Challenge.cw_whichpaces_k39_any_value_as_machine_holds : PySem.Challenge.rw_whichpaces_k39_any_value_as_machine.Holds := by
  w_on; o_law; k_head; (case hw => w_witness2)
  k_fill
  refine Sh.walk_G (l := PySem.Challenge.rw_whichpaces_k39_any_value_as_machine) (n := 63) (k := K39.DP + 2) (x := "script") (sp := fun w => Sh.sp0 _) rfl (by decide) rfl ⟨rfl, by decide, by decide⟩ (fun w h Y => PySem.W.kIn_of Y) ?F (fun _ H a ns h1 h2 h3 => ⟨a, ns, rfl, h1, h3, fun _ => rfl⟩)
  case F =>
    intro w mg fa h KX G hmg
    refine' K39.all_mk KX G hmg ?sG ?sT ?z_abs ?z_all ?z_bool ?z_divmod ?z_int ?z_isinstance ?z_len ?z_list ?z_max ?z_range ?z_repr ?z_sorted ?z_str ?z_tuple ?zc_TOO_OFTEN ?zc_MOST_LENGTH ?zc_MOST_ROADS ?zc_MOST_PLACES ?zc_MOST_TIES ?a0 ?l0 ?cc0 ?k0 ?a1 ?l1 ?cc1 ?k1 ?a2 ?l2 ?cc2 ?k2 ?a3 ?l3 ?cc3 ?k3 ?a4 ?l4 ?cc4 ?k4 ?a5 ?l5 ?cc5 ?k5 ?a6 ?l6 ?cc6 ?k6 ?a7 ?l7 ?cc7 ?k7 ?a8 ?l8 ?cc8 ?k8 ?a9 ?l9 ?cc9 ?k9 ?a10 ?l10 ?cc10 ?k10 ?a11 ?l11 ?cc11 ?k11 ?a12 ?l12 ?cc12 ?k12 ?a13 ?l13 ?cc13 ?k13 ?a14 ?l14 ?cc14 ?k14 ?a15 ?l15 ?cc15 ?k15 ?a16 ?l16 ?cc16 ?k16 ?a17 ?l17 ?cc17 ?k17 ?a18 ?l18 ?cc18 ?k18 ?a19 ?l19 ?cc19 ?k19 ?a20 ?l20 ?cc20 ?k20 ?plain
    (case sG => k_is)
    (case sT => k_is)
    (case z_abs => k_is)
    (case z_all => k_is)
    (case z_bool => k_is)
    (case z_divmod => k_is)
    (case z_int => k_is)
    (case z_isinstance => k_is)
    (case z_len => k_is)
    (case z_list => k_is)
    (case z_max => k_is)
    (case z_range => k_is)
    (case z_repr => k_is)
    (case z_sorted => k_is)
    (case z_str => k_is)
    (case z_tuple => k_is)
    (case zc_TOO_OFTEN => k_is)
    (case zc_MOST_LENGTH => k_is)
    (case zc_MOST_ROADS => k_is)
    (case zc_MOST_PLACES => k_is)
    (case zc_MOST_TIES => k_is)
    (case a0 => k_is)
    (case l0 => k_is)
    (case cc0 => k_is)
    (case k0 => k_is)
    (case a1 => k_is)
    (case l1 => k_is)
    (case cc1 => k_is)
    (case k1 => k_is)
    (case a2 => k_is)
    (case l2 => k_is)
    (case cc2 => k_is)
    (case k2 => k_is)
    (case a3 => k_is)
    (case l3 => k_is)
    (case cc3 => k_is)
    (case k3 => k_is)
    (case a4 => k_is)
    (case l4 => k_is)
    (case cc4 => k_is)
    (case k4 => k_is)
    (case a5 => k_is)
    (case l5 => k_is)
    (case cc5 => k_is)
    (case k5 => k_is)
    (case a6 => k_is)
    (case l6 => k_is)
    (case cc6 => k_is)
    (case k6 => k_is)
    (case a7 => k_is)
    (case l7 => k_is)
    (case cc7 => k_is)
    (case k7 => k_is)
    (case a8 => k_is)
    (case l8 => k_is)
    (case cc8 => k_is)
    (case k8 => k_is)
    (case a9 => k_is)
    (case l9 => k_is)
    (case cc9 => k_is)
    (case k9 => k_is)
    (case a10 => k_is)
    (case l10 => k_is)
    (case cc10 => k_is)
    (case k10 => k_is)
    (case a11 => k_is)
    (case l11 => k_is)
    (case cc11 => k_is)
    (case k11 => k_is)
    (case a12 => k_is)
    (case l12 => k_is)
    (case cc12 => k_is)
    (case k12 => k_is)
    (case a13 => k_is)
    (case l13 => k_is)
    (case cc13 => k_is)
    (case k13 => k_is)
    (case a14 => k_is)
    (case l14 => k_is)
    (case cc14 => k_is)
    (case k14 => k_is)
    (case a15 => k_is)
    (case l15 => k_is)
    (case cc15 => k_is)
    (case k15 => k_is)
    (case a16 => k_is)
    (case l16 => k_is)
    (case cc16 => k_is)
    (case k16 => k_is)
    (case a17 => k_is)
    (case l17 => k_is)
    (case cc17 => k_is)
    (case k17 => k_is)
    (case a18 => k_is)
    (case l18 => k_is)
    (case cc18 => k_is)
    (case k18 => k_is)
    (case a19 => k_is)
    (case l19 => k_is)
    (case cc19 => k_is)
    (case k19 => k_is)
    (case a20 => k_is)
    (case l20 => k_is)
    (case cc20 => k_is)
    (case k20 => k_is)
    (case plain => exact K39.plain)
