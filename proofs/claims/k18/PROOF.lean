import PyProof.Rows.All
import Wide.All
import OpenK.AllK
import Wide.FinOn
import HandS.ForMost
import HandS.Zip
import HandS.TupAny
import HandS.IsInst
import HandS.Walk
import HandS.Conv
import HandS.WordsExc
import HandS.TupMul
import HandS.Style
import KE.GoesMore
import KE.GoesEnum
import PySem.Challenge.RW_steadycraft_k18_whole_counts_by_the_word
set_option Elab.async false
set_option linter.all false
set_option maxRecDepth 100000
set_option maxHeartbeats 4000000
/-! A layer of plain data over the hand layer: values as trees (D), lists that one def may still change by their addresses (OH); the readings speak of no heap. -/
namespace SC
open PySem PySem.Spec PyProof.Rows L2

/-! ### data -/
inductive D where
  | non | bl (b : Bool) | int (i : Int) | str (x : Str) | ty (n : String)
  | tup (xs : List D) | lst (xs : List D) | own (a : Addr)
  /-- a list that is handed in -/
  | fz (xs : List D)

abbrev OH := Addr → Option (List D)
abbrev DV := List (Option D)
def oset (O : OH) (p : Addr) (ds : List D) : OH := fun b => if b = p then some ds else O b
def odel (O : OH) (p : Addr) : OH := fun b => if b = p then none else O b
theorem oset_same {O : OH} {p : Addr} {ds : List D} : oset O p ds p = some ds := if_pos rfl
theorem oset_ne {O : OH} {p b : Addr} {ds : List D} (h : b ≠ p) : oset O p ds b = O b := if_neg h
theorem oset_oset {O : OH} {p : Addr} {ds es : List D} : oset (oset O p ds) p es = oset O p es := by
  funext b; unfold oset; split <;> rfl

mutual
inductive Rep (K : PySem.W.Frag) (F : Hp) : V → D → Prop
  | non : Rep K F .non .non
  | bl (b : Bool) : Rep K F (.bl b) (.bl b)
  | int (i : Int) : Rep K F (.int i) (.int i)
  | str (x : Str) : Rep K F (.str x) (.str x)
  | ty (n : String) : Rep K F (.ty n) (.ty n)
  | tup {a : Addr} {xs : List V} {ds : List D} (h : SqT K F a xs) (r : Reps K F xs ds) : Rep K F (.ref a) (.tup ds)
  | lst {a : Addr} {xs : List V} {ds : List D} (h : F a = some (.lst xs)) (r : Reps K F xs ds) : Rep K F (.ref a) (.lst ds)
  | fz {a : Addr} {xs : List V} {ds : List D} (h : SqL K F a xs) (r : Reps K F xs ds) : Rep K F (.ref a) (.fz ds)
  | own (a : Addr) : Rep K F (.ref a) (.own a)
inductive Reps (K : PySem.W.Frag) (F : Hp) : List V → List D → Prop
  | nil : Reps K F [] []
  | cons {v : V} {vs : List V} {d : D} {ds : List D} (h : Rep K F v d) (r : Reps K F vs ds) : Reps K F (v :: vs) (d :: ds)
end
theorem Same.seqT {K : PySem.W.Frag} {H H' : Hp} {a : Addr} {xs : List V} (e : Same H H') (h : SqT K H a xs) : SqT K H' a xs := by
  rcases h with (h | ⟨o, h⟩) | h
  · exact .inl (.inl (e _ _ h))
  · exact .inl (.inr ⟨o, e _ _ h⟩)
  · exact .inr h
mutual
theorem Rep.mono {K : PySem.W.Frag} {F F' : Hp} (e : Same F F') : ∀ {v : V} {d : D}, Rep K F v d → Rep K F' v d
  | _, _, .non => .non
  | _, _, .bl b => .bl b
  | _, _, .int i => .int i
  | _, _, .str x => .str x
  | _, _, .ty n => .ty n
  | _, _, .tup h r => .tup (Same.seqT e h) (Reps.mono e r)
  | _, _, .lst h r => .lst (e _ _ h) (Reps.mono e r)
  | _, _, .fz h r => .fz (e.seq h) (Reps.mono e r)
  | _, _, .own a => .own a
theorem Reps.mono {K : PySem.W.Frag} {F F' : Hp} (e : Same F F') : ∀ {vs : List V} {ds : List D}, Reps K F vs ds → Reps K F' vs ds
  | _, _, .nil => .nil
  | _, _, .cons h r => .cons (Rep.mono e h) (Reps.mono e r)
end
section
variable {K : PySem.W.Frag} {F F' : Hp}
theorem Reps.length : ∀ {vs : List V} {ds : List D}, Reps K F vs ds → vs.length = ds.length
  | _, _, .nil => rfl
  | _, _, .cons _ r => congrArg Nat.succ (Reps.length r)
theorem Reps.get : ∀ {vs : List V} {ds : List D} {i : Nat} {d : D}, Reps K F vs ds → ds[i]? = some d → ∃ v, vs[i]? = some v ∧ Rep K F v d
  | _, _, _, _, .nil, e => by simp at e
  | _, _, 0, _, .cons h _, e => by simp at e; subst e; exact ⟨_, rfl, h⟩
  | _, _, i + 1, d, .cons _ r, e => by
    obtain ⟨u, h1, h2⟩ := Reps.get (i := i) (d := d) r (by simpa using e)
    exact ⟨u, by simpa using h1, h2⟩
theorem Reps.getV : ∀ {vs : List V} {ds : List D} {i : Nat} {v : V}, Reps K F vs ds → vs[i]? = some v → ∃ d, ds[i]? = some d ∧ Rep K F v d
  | _, _, _, _, .nil, e => by simp at e
  | _, _, 0, _, .cons h _, e => by simp at e; subst e; exact ⟨_, rfl, h⟩
  | _, _, i + 1, d, .cons _ r, e => by
    obtain ⟨u, h1, h2⟩ := Reps.getV (i := i) (v := d) r (by simpa using e)
    exact ⟨u, by simpa using h1, h2⟩
theorem Reps.append : ∀ {vs ws : List V} {ds es : List D}, Reps K F vs ds → Reps K F ws es → Reps K F (vs ++ ws) (ds ++ es)
  | _, _, _, _, .nil, s => s
  | _, _, _, _, .cons h r, s => .cons h (Reps.append r s)
theorem Reps.drop : ∀ {vs : List V} {ds : List D} (n : Nat), Reps K F vs ds → Reps K F (vs.drop n) (ds.drop n)
  | _, _, 0, r => r
  | _, _, _ + 1, .nil => .nil
  | _, _, n + 1, .cons _ r => Reps.drop n r
theorem Reps.take : ∀ {vs : List V} {ds : List D} (n : Nat), Reps K F vs ds → Reps K F (vs.take n) (ds.take n)
  | _, _, 0, _ => .nil
  | _, _, _ + 1, .nil => .nil
  | _, _, n + 1, .cons h r => .cons h (Reps.take n r)
theorem Reps.set : ∀ {vs : List V} {ds : List D} {v : V} {d : D} (n : Nat), Rep K F v d → Reps K F vs ds → Reps K F (vs.set n v) (ds.set n d)
  | _, _, _, _, _, _, .nil => .nil
  | _, _, _, _, 0, q, .cons _ r => .cons q r
  | _, _, _, _, n + 1, q, .cons h r => .cons h (Reps.set n q r)
theorem Reps.atI {vs : List V} {ds : List D} {i : Int} {d : D} (r : Reps K F vs ds) (e : atI ds i = some d) : ∃ v, atI vs i = some v ∧ Rep K F v d := by
  unfold L2.atI at e ⊢
  rw [r.length]
  cases h : ixN ds.length i with
  | none => rw [h] at e; cases e
  | some j =>
    rw [h] at e
    exact r.get (i := j) e
def cutA {α : Type} (xs : List α) (lo hi : Option Int) : List α := (xs.drop (HT.sIx xs.length 0 lo)).take (HT.sIx xs.length xs.length hi - HT.sIx xs.length 0 lo)
theorem Reps.cut {vs : List V} {ds : List D} (lo hi : Option Int) (r : Reps K F vs ds) : Reps K F (cutV vs lo hi) (cutA ds lo hi) := by
  unfold cutV cutA
  rw [r.length]
  exact (r.drop _).take _

inductive ERep (K : PySem.W.Frag) (F : Hp) : L2.St → DV → Prop
  | nil : ERep K F [] []
  | none {s : Option V} {σ : L2.St} {e : DV} (r : ERep K F σ e) : ERep K F (s :: σ) (none :: e)
  | some {v : V} {d : D} {σ : L2.St} {e : DV} (h : Rep K F v d) (r : ERep K F σ e) : ERep K F (some v :: σ) (some d :: e)
theorem ERep.mono (m : Same F F') : ∀ {σ : L2.St} {e : DV}, ERep K F σ e → ERep K F' σ e
  | _, _, .nil => .nil
  | _, _, .none r => .none (ERep.mono m r)
  | _, _, .some h r => .some (h.mono m) (ERep.mono m r)
theorem ERep.length : ∀ {σ : L2.St} {e : DV}, ERep K F σ e → σ.length = e.length
  | _, _, .nil => rfl
  | _, _, .none r => congrArg Nat.succ (ERep.length r)
  | _, _, .some _ r => congrArg Nat.succ (ERep.length r)
theorem ERep.get : ∀ {σ : L2.St} {e : DV} {i : Nat} {d : D}, ERep K F σ e → e[i]? = Option.some (Option.some d) → ∃ v, σ[i]? = Option.some (Option.some v) ∧ Rep K F v d
  | _, _, _, _, .nil, q => by simp at q
  | _, _, 0, _, .none _, q => by simp at q
  | _, _, 0, _, .some h _, q => by simp at q; subst q; exact ⟨_, rfl, h⟩
  | _, _, i + 1, d, .none r, q => by
    obtain ⟨u, h1, h2⟩ := ERep.get (i := i) (d := d) r (by simpa using q)
    exact ⟨u, by simpa using h1, h2⟩
  | _, _, i + 1, d, .some _ r, q => by
    obtain ⟨u, h1, h2⟩ := ERep.get (i := i) (d := d) r (by simpa using q)
    exact ⟨u, by simpa using h1, h2⟩
theorem ERep.set {v : V} {d : D} (q : Rep K F v d) : ∀ {σ : L2.St} {e : DV} (i : Nat), ERep K F σ e → ERep K F (σ.set i (Option.some v)) (e.set i (Option.some d))
  | _, _, _, .nil => .nil
  | _, _, 0, .none r => .some q r
  | _, _, 0, .some _ r => .some q r
  | _, _, i + 1, .none r => .none (ERep.set q i r)
  | _, _, i + 1, .some h r => .some h (ERep.set q i r)
theorem ERep.clear : ∀ {σ : L2.St} {e : DV} (i : Nat), ERep K F σ e → ERep K F (σ.set i Option.none) (e.set i Option.none)
  | _, _, _, .nil => .nil
  | _, _, 0, .none r => .none r
  | _, _, 0, .some _ r => .none r
  | _, _, i + 1, .none r => .none (ERep.clear i r)
  | _, _, i + 1, .some h r => .some h (ERep.clear i r)
def wipeD (e : DV) : List Nat → DV
  | [] => e
  | v :: vs => (wipeD e vs).set v none
theorem ERep.wipe {σ : L2.St} {e : DV} (r : ERep K F σ e) : ∀ vs : List Nat, ERep K F (L2.wipe σ vs) (wipeD e vs)
  | [] => r
  | v :: vs => (ERep.wipe r vs).clear v
end

/-! ### states and steps -/
structure Stt (K : PySem.W.Frag) (F : Hp) (O : OH) (H : Hp) : Prop where
  same : Same F H
  own : ∀ a ds, O a = some ds → F a = none ∧ ∃ xs, H a = some (.lst xs) ∧ Reps K F xs ds
structure Go (K : PySem.W.Frag) (F : Hp) (O : OH) (H : Hp) (F' : Hp) (O' : OH) (H' : Hp) : Prop where
  same : Same F F'
  stt : Stt K F' O' H'
  frame : ∀ a o, H a = some o → F a = none → O a = none → H' a = some o ∧ F' a = none ∧ O' a = none
section
variable {K : PySem.W.Frag} {F F1 F2 H H1 H2 : Hp} {O O1 O2 : OH}
theorem Stt.go (s : Stt K F O H) : Go K F O H F O H := ⟨Same.refl _, s, fun _ _ h f o => ⟨h, f, o⟩⟩
theorem Go.trans (a : Go K F O H F1 O1 H1) (b : Go K F1 O1 H1 F2 O2 H2) : Go K F O H F2 O2 H2 :=
  ⟨a.same.trans b.same, b.stt, fun p o h f q => let ⟨x, y, z⟩ := a.frame p o h f q; b.frame p o x y z⟩
theorem free_F (s : Stt K F O H) {p : Addr} (n : H p = none) : F p = none := s.same.free n
theorem free_O (s : Stt K F O H) {p : Addr} (n : H p = none) : O p = none := by
  cases q : O p with
  | none => rfl
  | some ds =>
    obtain ⟨_, xs, h, _⟩ := s.own p ds q
    rw [n] at h; cases h
theorem same_upd {p : Addr} {o : HO} (n : H p = none) : Same H (upd H p o) := fun b x e => by rw [upd_ne (ne_of_none e n)]; exact e
/-- a new object, not looked at -/
theorem Stt.junk (s : Stt K F O H) {p : Addr} {o : HO} (n : H p = none) : Go K F O H F O (upd H p o) :=
  ⟨Same.refl _, ⟨s.same.trans (same_upd n), fun a ds e => let ⟨f, xs, h, r⟩ := s.own a ds e; ⟨f, xs, same_upd n _ _ h, r⟩⟩, fun a o h f q => ⟨same_upd n _ _ h, f, q⟩⟩
/-- a new object, known -/
theorem Stt.made (s : Stt K F O H) {p : Addr} {o : HO} (n : H p = none) : Go K F O H (upd F p o) O (upd H p o) := by
  have fp := free_F s n
  refine ⟨same_upd fp, ⟨fun b x e => ?_, fun a ds e => ?_⟩, fun a u h f q => ?_⟩
  · by_cases z : b = p
    · subst z; rw [upd_same] at e ⊢; exact e
    · rw [upd_ne z] at e ⊢; exact s.same _ _ e
  · obtain ⟨f, xs, h, r⟩ := s.own a ds e
    have z := ne_of_none h n
    exact ⟨by rw [upd_ne z]; exact f, xs, by rw [upd_ne z]; exact h, r.mono (same_upd fp)⟩
  · have z := ne_of_none h n
    exact ⟨by rw [upd_ne z]; exact h, by rw [upd_ne z]; exact f, q⟩
/-- a new list, still to be changed -/
theorem Stt.fresh (s : Stt K F O H) {p : Addr} {xs : List V} {ds : List D} (n : H p = none) (r : Reps K F xs ds) : Go K F O H F (oset O p ds) (upd H p (.lst xs)) := by
  refine ⟨Same.refl _, ⟨s.same.trans (same_upd n), fun a es e => ?_⟩, fun a u h f q => ?_⟩
  · by_cases z : a = p
    · subst z; rw [oset_same] at e; cases e; exact ⟨free_F s n, xs, upd_same, r⟩
    · rw [oset_ne z] at e
      obtain ⟨f, ys, h, r'⟩ := s.own a es e
      exact ⟨f, ys, by rw [upd_ne z]; exact h, r'⟩
  · have z := ne_of_none h n
    exact ⟨by rw [upd_ne z]; exact h, f, by rw [oset_ne z]; exact q⟩
/-- an own list changed -/
theorem Stt.put (s : Stt K F O H) {p : Addr} {xs : List V} {ds es : List D} (e : O p = some es) (r : Reps K F xs ds) : Go K F O H F (oset O p ds) (upd H p (.lst xs)) := by
  obtain ⟨f0, _, h0, _⟩ := s.own p es e
  refine ⟨Same.refl _, ⟨fun b x q => ?_, fun a es' q => ?_⟩, fun a u h f q => ?_⟩
  · have z : b ≠ p := fun z => by rw [z, f0] at q; cases q
    rw [upd_ne z]; exact s.same _ _ q
  · by_cases z : a = p
    · subst z; rw [oset_same] at q; cases q; exact ⟨f0, xs, upd_same, r⟩
    · rw [oset_ne z] at q
      obtain ⟨f, ys, h, r'⟩ := s.own a es' q
      exact ⟨f, ys, by rw [upd_ne z]; exact h, r'⟩
  · have z : a ≠ p := fun z => by rw [z, e] at q; cases q
    exact ⟨by rw [upd_ne z]; exact h, f, by rw [oset_ne z]; exact q⟩
/-- an own list is changed no more -/
theorem Stt.freeze (s : Stt K F O H) {p : Addr} {xs : List V} {ds : List D} (e : O p = some ds) (hx : H p = some (.lst xs)) : Go K F O H (upd F p (.lst xs)) (odel O p) H := by
  obtain ⟨f0, _, _, _⟩ := s.own p ds e
  refine ⟨same_upd f0, ⟨fun b x q => ?_, fun a es q => ?_⟩, fun a u h f q => ?_⟩
  · by_cases z : b = p
    · subst z; rw [upd_same] at q; cases q; exact hx
    · rw [upd_ne z] at q; exact s.same _ _ q
  · by_cases z : a = p
    · subst z; simp [odel] at q
    · have q' : O a = some es := by simpa [odel, z] using q
      obtain ⟨f, ys, h, r⟩ := s.own a es q'
      exact ⟨by rw [upd_ne z]; exact f, ys, h, r.mono (same_upd f0)⟩
  · have z : a ≠ p := fun z => by rw [z, e] at q; cases q
    exact ⟨h, by rw [upd_ne z]; exact f, by simp [odel, z, q]⟩
/-- a list that was tracked by none is now known -/
theorem Stt.known (s : Stt K F O H) {p : Addr} {o : HO} (f0 : F p = none) (o0 : O p = none) (hx : H p = some o) : Stt K (upd F p o) O H := by
  refine ⟨fun b x q => ?_, fun a es q => ?_⟩
  · by_cases z : b = p
    · subst z; rw [upd_same] at q; cases q; exact hx
    · rw [upd_ne z] at q; exact s.same _ _ q
  · obtain ⟨f, ys, h, r⟩ := s.own a es q
    have z : a ≠ p := fun z => by rw [z, o0] at q; cases q
    exact ⟨by rw [upd_ne z]; exact f, ys, h, r.mono (same_upd f0)⟩
theorem Stt.rel {p : Addr} {ds : List D} (s : Stt K F O H) (e : O p = some ds) : ∃ xs, H p = some (.lst xs) ∧ Reps K F xs ds := (s.own p ds e).2
end

/-! ### readings -/
abbrev DE := DV → OH → (D → OH → Prop) → Prop
abbrev DA := DV → OH → (List D → OH → Prop) → Prop
abbrev DT := DV → OH → (Bool → OH → Prop) → Prop
structure DEnds where
  nx : DV → OH → Prop
  rt : D → OH → Prop
  bk : DV → OH → Prop := fun _ _ => False
  ct : DV → OH → Prop := fun _ _ => False
abbrev DS := DEnds → DV → OH → Prop
abbrev DSp := List D → OH → (D → OH → Prop) → Prop

def Outs (K : PySem.W.Frag) (F : Hp) (O : OH) (H : Hp) (k : D → OH → Prop) (Q : VK) : Prop := ∀ d O' F' H' v, k d O' → Go K F O H F' O' H' → Rep K F' v d → Q v H'
def OutsA (K : PySem.W.Frag) (F : Hp) (O : OH) (H : Hp) (k : List D → OH → Prop) (Q : List V → Hp → Prop) : Prop := ∀ ds O' F' H' vs, k ds O' → Go K F O H F' O' H' → Reps K F' vs ds → Q vs H'
def OutsT (K : PySem.W.Frag) (F : Hp) (O : OH) (H : Hp) (k : Bool → OH → Prop) (Q : Bool → Hp → Prop) : Prop := ∀ b O' F' H', k b O' → Go K F O H F' O' H' → Q b H'
def OutsS (K : PySem.W.Frag) (F : Hp) (O : OH) (H : Hp) (k : DV → OH → Prop) (Q : L2.St → Hp → Prop) : Prop := ∀ e O' F' H' σ, k e O' → Go K F O H F' O' H' → ERep K F' σ e → Q σ H'
def upE (K : PySem.W.Frag) (t : DE) : TE := fun σ H Q => ∃ F e O k, Stt K F O H ∧ ERep K F σ e ∧ t e O k ∧ Outs K F O H k Q
def upA (K : PySem.W.Frag) (t : DA) : TA := fun σ H Q => ∃ F e O k, Stt K F O H ∧ ERep K F σ e ∧ t e O k ∧ OutsA K F O H k Q
def upT (K : PySem.W.Frag) (t : DT) : TT := fun σ H Q => ∃ F e O k, Stt K F O H ∧ ERep K F σ e ∧ t e O k ∧ OutsT K F O H k Q
structure EndsOk (K : PySem.W.Frag) (F : Hp) (O : OH) (H : Hp) (k : DEnds) (D : Ends) : Prop where
  nx : OutsS K F O H k.nx D.nx
  rt : Outs K F O H k.rt D.rt
  bk : OutsS K F O H k.bk D.bk
  ct : OutsS K F O H k.ct D.ct
def upS (K : PySem.W.Frag) (t : DS) : TS := fun D σ H => ∃ F e O k, Stt K F O H ∧ ERep K F σ e ∧ t k e O ∧ EndsOk K F O H k D
def upSp (K : PySem.W.Frag) (sp : DSp) : Sp := fun vs H Q _ => ∃ F ds O k, Stt K F O H ∧ Reps K F vs ds ∧ sp ds O k ∧ Outs K F O H k Q
section
variable {K : PySem.W.Frag} {F F1 H H1 : Hp} {O O1 : OH}
theorem Outs.after {k : D → OH → Prop} {Q : VK} (o : Outs K F O H k Q) (g : Go K F O H F1 O1 H1) : Outs K F1 O1 H1 k Q := fun d O' F' H' v q s r => o d O' F' H' v q (g.trans s) r
theorem OutsA.after {k : List D → OH → Prop} {Q : List V → Hp → Prop} (o : OutsA K F O H k Q) (g : Go K F O H F1 O1 H1) : OutsA K F1 O1 H1 k Q := fun d O' F' H' v q s r => o d O' F' H' v q (g.trans s) r
theorem OutsT.after {k : Bool → OH → Prop} {Q : Bool → Hp → Prop} (o : OutsT K F O H k Q) (g : Go K F O H F1 O1 H1) : OutsT K F1 O1 H1 k Q := fun d O' F' H' q s => o d O' F' H' q (g.trans s)
theorem OutsS.after {k : DV → OH → Prop} {Q : L2.St → Hp → Prop} (o : OutsS K F O H k Q) (g : Go K F O H F1 O1 H1) : OutsS K F1 O1 H1 k Q := fun d O' F' H' v q s r => o d O' F' H' v q (g.trans s) r
theorem EndsOk.after {k : DEnds} {D : Ends} (o : EndsOk K F O H k D) (g : Go K F O H F1 O1 H1) : EndsOk K F1 O1 H1 k D := ⟨o.nx.after g, o.rt.after g, o.bk.after g, o.ct.after g⟩
theorem OutsS.no {Q : L2.St → Hp → Prop} : OutsS K F O H (fun _ _ => False) Q := fun _ _ _ _ _ h => h.elim
end
structure PD (X : Cx) (x : Expr) (t : DE) : Prop where
  pe : PE X x (upE X.K t)
structure PAD (X : Cx) (xs : List Expr) (t : DA) : Prop where
  pa : PA X xs (upA X.K t)
structure PTD (X : Cx) (x : Expr) (t : DT) : Prop where
  pt : PT X x (upT X.K t)
structure PWD (X : Cx) (x : Expr) (t : DT) : Prop where
  pw : PW X x (upT X.K t)
structure PSD (X : Cx) (st : Stmt) (t : DS) : Prop where
  ps : PS X st (upS X.K t)
structure PBD (X : Cx) (st : List Stmt) (t : DS) : Prop where
  pb : PSs X st (upS X.K t)
theorem PE.weak {X : Cx} {e : Expr} {t u : TE} (p : PE X e t) (h : ∀ σ H Q, u σ H Q → t σ H Q) : PE X e u := ⟨fun pins s σ H Q I q => p.run pins s σ H Q I (h _ _ _ q)⟩
theorem PA.weak {X : Cx} {e : List Expr} {t u : TA} (p : PA X e t) (h : ∀ σ H Q, u σ H Q → t σ H Q) : PA X e u := ⟨fun pos pins s σ H Q I q => p.run pos pins s σ H Q I (h _ _ _ q)⟩
theorem PT.weak {X : Cx} {e : Expr} {t u : TT} (p : PT X e t) (h : ∀ σ H Q, u σ H Q → t σ H Q) : PT X e u := ⟨fun pins s σ H Q I q => p.run pins s σ H Q I (h _ _ _ q)⟩
theorem PW.weak {X : Cx} {e : Expr} {t u : TT} (p : PW X e t) (h : ∀ σ H Q, u σ H Q → t σ H Q) : PW X e u := ⟨fun wh pins s σ H Q I q => p.run wh pins s σ H Q I (h _ _ _ q)⟩
theorem PS.weak {X : Cx} {e : Stmt} {t u : TS} (p : PS X e t) (h : ∀ D σ H, u D σ H → t D σ H) : PS X e u := ⟨fun pins s σ H Q I q => p.run pins s σ H Q I (h _ _ _ q)⟩
theorem PSs.weak {X : Cx} {e : List Stmt} {t u : TS} (p : PSs X e t) (h : ∀ D σ H, u D σ H → t D σ H) : PSs X e u := ⟨fun pins s σ H Q I q => p.run pins s σ H Q I (h _ _ _ q)⟩

/-! ### expressions -/
section
variable {X : Cx} {a b c : Expr} {pos : Pos} {da db dc : DE}
def dVar (i : Nat) : DE := fun e O k => match e[i]? with
  | some (some d) => k d O
  | _ => False
def dC (d : D) : DE := fun _ O k => k d O
theorem pd_v (i : Nat) {x : Str} {pos : Pos} (hN : X.N[i]? = some x := by rfl) (hv : Vis X.env.scope x := by first | exact Or.inl rfl | exact Or.inr (Or.inl rfl) | exact Or.inr (Or.inr rfl)) (hd : (x == ("__debug__" : Str)) = false := by decide)
    (hcd : (x == ("__classdict__" : Str)) = false := by decide) : PD X (.Name x pos) (dVar i) := by
  refine ⟨PE.weak (pe_var hN hv hd hcd) fun σ H Q h => ?_⟩
  obtain ⟨F, e, O, k, st, er, h, o⟩ := h
  unfold dVar at h
  split at h
  · rename_i d q
    obtain ⟨v, hv, r⟩ := er.get q
    exact ⟨v, hv, o d O F H v h st.go r⟩
  · exact h.elim
theorem pd_c {x : Expr} {v : V} {d : D} (h : PE X x (tC v)) (r : ∀ F, Rep X.K F v d) : PD X x (dC d) :=
  ⟨PE.weak h fun σ H Q ⟨F, e, O, k, st, er, h, o⟩ => o d O F H v h st.go (r F)⟩
theorem pd_int {i j pos} : PD X (.Constant (.int i) j pos) (dC (.int i)) := pd_c pe_int fun _ => .int i
theorem pd_bl {i j pos} : PD X (.Constant (.bool i) j pos) (dC (.bl i)) := pd_c pe_bl fun _ => .bl i
theorem pd_non {j pos} : PD X (.Constant .none j pos) (dC .non) := pd_c pe_non fun _ => .non
theorem pd_str {i j pos} : PD X (.Constant (.str i) j pos) (dC (.str i)) := pd_c pe_str fun _ => .str i

/-- by values, on trees -/
abbrev R2D := D → D → OH → (D → OH → Prop) → Prop
def OpD (K : PySem.W.Frag) (r : R2) (rd : R2D) : Prop := ∀ x y a b F O H k Q, Stt K F O H → Rep K F x a → Rep K F y b → rd a b O k → Outs K F O H k Q → r x y H Q
def dOp (rd : R2D) (da db : DE) : DE := fun e O k => da e O fun x O1 => db e O1 fun y O2 => rd x y O2 k
theorem up_op {r : R2} {rd : R2D} (hr : OpD X.K r rd) {σ : L2.St} {H : Hp} {Q : VK} (h : upE X.K (dOp rd da db) σ H Q) : tOp r (upE X.K da) (upE X.K db) σ H Q := by
  obtain ⟨F, e, O, k, st, er, h, o⟩ := h
  exact ⟨F, e, O, _, st, er, h, fun d O1 F1 H1 v h1 g1 r1 => ⟨F1, e, O1, _, g1.stt, er.mono g1.same, h1, fun d2 O2 F2 H2 v2 h2 g2 r2 => hr v v2 d d2 F2 O2 H2 k Q g2.stt (r1.mono g2.same) r2 h2 (o.after (g1.trans g2))⟩⟩
theorem pd_op {op : Operator} {r : R2} {rd : R2D} (ho : OpR X (binaryOp op) r) (hr : OpD X.K r rd) (ha : PD X a da) (hb : PD X b db) : PD X (.BinOp a op b pos) (dOp rd da db) :=
  ⟨PE.weak (pe_op ho ha.pe hb.pe) fun _ _ _ h => up_op hr h⟩
theorem pd_cmp {op : CmpOp} {r : R2} {rd : R2D} (ho : OpR X (compareOp op) r) (hr : OpD X.K r rd) (ha : PD X a da) (hb : PD X b db) (hm : behindInMarks op b = false := by first | exact nomark _ | rfl) : PD X (.Compare a [op] [b] pos) (dOp rd da db) :=
  ⟨PE.weak (pe_cmpR ho ha.pe hb.pe hm) fun _ _ _ h => up_op hr h⟩
theorem pd_ix {r : R2} {rd : R2D} (ho : IxR X r) (hr : OpD X.K r rd) (ha : PD X a da) (hb : PD X b db) (hs : PlainIx b := by exact fun _ _ => rfl) : PD X (.Subscript a b pos) (dOp rd da db) :=
  ⟨PE.weak (pe_ix ho ha.pe hb.pe hs) fun _ _ _ h => up_op hr h⟩
abbrev R1D := D → OH → (D → OH → Prop) → Prop
def UnD (K : PySem.W.Frag) (r : V → Hp → VK → Prop) (rd : R1D) : Prop := ∀ x a F O H k Q, Stt K F O H → Rep K F x a → rd a O k → Outs K F O H k Q → r x H Q
def dUn (rd : R1D) (da : DE) : DE := fun e O k => da e O fun x O1 => rd x O1 k
theorem up_un {r : V → Hp → VK → Prop} {rd : R1D} (hr : UnD X.K r rd) {σ : L2.St} {H : Hp} {Q : VK} (h : upE X.K (dUn rd da) σ H Q) : upE X.K da σ H fun x H1 => r x H1 Q := by
  obtain ⟨F, e, O, k, st, er, h, o⟩ := h
  exact ⟨F, e, O, _, st, er, h, fun d O1 F1 H1 v h1 g1 r1 => hr v d F1 O1 H1 k Q g1.stt r1 h1 (o.after g1)⟩
theorem pd_un {op : UnaryOp} {r : V → Hp → VK → Prop} {rd : R1D} (ho : UnR X (unaryOp op) r) (hr : UnD X.K r rd) (ha : PD X a da) : PD X (.UnaryOp op a pos) (dUn rd da) :=
  ⟨PE.weak (pe_un ho ha.pe) fun _ _ _ h => up_un hr h⟩

def dI (C : Int → Int → Prop) (g : Int → Int → D) : R2D := fun a b O k => match a, b with
  | .int i, .int j => C i j ∧ k (g i j) O
  | _, _ => False
def dI0 (g : Int → Int → D) : R2D := fun a b O k => match a, b with
  | .int i, .int j => k (g i j) O
  | _, _ => False
theorem od_I {K : PySem.W.Frag} {C : Int → Int → Prop} {g : Int → Int → V} {gd : Int → Int → D} (hg : ∀ F i j, Rep K F (g i j) (gd i j)) : OpD K (rI C g) (dI C gd) := by
  intro x y a b F O H k Q st ra rb h o
  unfold dI at h
  split at h
  · rename_i i j
    cases ra; cases rb
    exact ⟨i, j, rfl, rfl, h.1, o _ _ F H _ h.2 st.go (hg F i j)⟩
  · exact h.elim
theorem od_I0 {K : PySem.W.Frag} {g : Int → Int → V} {gd : Int → Int → D} (hg : ∀ F i j, Rep K F (g i j) (gd i j)) : OpD K (rI0 g) (dI0 gd) := by
  intro x y a b F O H k Q st ra rb h o
  unfold dI0 at h
  split at h
  · rename_i i j
    cases ra; cases rb
    exact ⟨i, j, rfl, rfl, o _ _ F H _ h st.go (hg F i j)⟩
  · exact h.elim
theorem od_i0 {K : PySem.W.Frag} {g : Int → Int → Int} : OpD K (rI0 fun i j => .int (g i j)) (dI0 fun i j => .int (g i j)) := od_I0 fun _ _ _ => .int _
theorem od_b0 {K : PySem.W.Frag} {g : Int → Int → Bool} : OpD K (rI0 fun i j => .bl (g i j)) (dI0 fun i j => .bl (g i j)) := od_I0 fun _ _ _ => .bl _
theorem od_i {K : PySem.W.Frag} {C : Int → Int → Prop} {g : Int → Int → Int} : OpD K (rI C fun i j => .int (g i j)) (dI C fun i j => .int (g i j)) := od_I fun _ _ _ => .int _
def dU (g : Int → D) : R1D := fun a O k => match a with
  | .int i => k (g i) O
  | _ => False
theorem ud_I {K : PySem.W.Frag} {g : Int → Int} : UnD K (rU fun i => .int (g i)) (dU fun i => .int (g i)) := by
  intro x a F O H k Q st ra h o
  unfold dU at h
  split at h
  · rename_i i
    cases ra
    exact ⟨i, rfl, o _ _ F H _ h st.go (.int _)⟩
  · exact h.elim
theorem pd_add (ha : PD X a da) (hb : PD X b db) : PD X (.BinOp a .Add b pos) (dOp (dI0 fun i j => .int (i + j)) da db) := pd_op op_add od_i0 ha hb
theorem pd_sub (ha : PD X a da) (hb : PD X b db) : PD X (.BinOp a .Sub b pos) (dOp (dI0 fun i j => .int (i - j)) da db) := pd_op op_sub od_i0 ha hb
theorem pd_mul (ha : PD X a da) (hb : PD X b db) : PD X (.BinOp a .Mult b pos) (dOp (dI CMul fun i j => .int (i * j)) da db) := pd_op op_mul od_i ha hb
theorem pd_mod (ha : PD X a da) (hb : PD X b db) : PD X (.BinOp a .Mod b pos) (dOp (dI (fun _ j => 0 < j) fun i j => .int (i % j)) da db) := pd_op op_mod od_i ha hb
theorem pd_fdiv (ha : PD X a da) (hb : PD X b db) : PD X (.BinOp a .FloorDiv b pos) (dOp (dI CDiv fun i j => .int (i / j)) da db) := pd_op op_fdiv od_i ha hb
theorem pd_pow (ha : PD X a da) (hb : PD X b db) : PD X (.BinOp a .Pow b pos) (dOp (dI CPow fun i j => .int (i ^ j.toNat)) da db) := pd_op op_pow od_i ha hb
theorem pd_neg (ha : PD X a da) : PD X (.UnaryOp .USub a pos) (dUn (dU fun i => .int (-i)) da) := pd_un un_neg ud_I ha
abbrev dLtE (da db : DE) : DE := dOp (dI0 fun i j => .bl (decide (i < j))) da db
theorem pd_lt (ha : PD X a da) (hb : PD X b db) : PD X (.Compare a [.Lt] [b] pos) (dOp (dI0 fun i j => .bl (decide (i < j))) da db) := pd_cmp op_lt od_b0 ha hb
theorem pd_le (ha : PD X a da) (hb : PD X b db) : PD X (.Compare a [.LtE] [b] pos) (dOp (dI0 fun i j => .bl (decide (i ≤ j))) da db) := pd_cmp op_le od_b0 ha hb
theorem pd_gt (ha : PD X a da) (hb : PD X b db) : PD X (.Compare a [.Gt] [b] pos) (dOp (dI0 fun i j => .bl (decide (j < i))) da db) := pd_cmp op_gt od_b0 ha hb
theorem pd_ge (ha : PD X a da) (hb : PD X b db) : PD X (.Compare a [.GtE] [b] pos) (dOp (dI0 fun i j => .bl (decide (j ≤ i))) da db) := pd_cmp op_ge od_b0 ha hb
/-- equality of texts, of which nothing is known but what is said -/
theorem strEq_ex : ∃ f : Str → Str → Bool, ∀ a b, f a b = decide (a = b) := ⟨fun a b => decide (a = b), fun _ _ => rfl⟩
noncomputable def strEq : Str → Str → Bool := Classical.choose strEq_ex
theorem strEq_eq (a b : Str) : strEq a b = decide (a = b) := Classical.choose_spec strEq_ex a b
theorem strEq_self (a : Str) : strEq a a = true := by rw [strEq_eq]; exact decide_eq_true rfl
/-- == of what is not nested -/
noncomputable def eqS : D → D → Option Bool
  | .int i, .int j => some (decide (i = j))
  | .str i, .str j => some (strEq i j)
  | .bl i, .bl j => some (decide (i = j))
  | .non, .non => some true
  | .non, .int _ => some false
  | .int _, .non => some false
  | .non, .str _ => some false
  | .str _, .non => some false
  | _, _ => none
noncomputable def dEqS (f : Bool → Bool) : R2D := fun a b O k => match eqS a b with
  | some r => k (.bl (f r)) O
  | none => False
theorem eqS_scal {K : PySem.W.Frag} {F : Hp} {x y : V} {a b : D} {r : Bool} (ra : Rep K F x a) (rb : Rep K F y b) (h : eqS a b = some r) : scal x y = true ∧ decide (x = y) = r := by
  unfold eqS at h
  split at h <;> cases h <;> cases ra <;> cases rb <;> refine ⟨rfl, ?_⟩ <;> first | (rw [strEq_eq]; simp; done) | (simp; done)
theorem od_eq {K : PySem.W.Frag} : OpD K rEq (dEqS fun r => r) := by
  intro x y a b F O H k Q st ra rb h o
  unfold dEqS at h
  split at h
  · rename_i r e
    obtain ⟨h1, h2⟩ := eqS_scal ra rb e
    exact ⟨h1, o _ _ F H _ h st.go (by rw [h2]; exact .bl _)⟩
  · exact h.elim
theorem od_ne {K : PySem.W.Frag} : OpD K rNe (dEqS fun r => !r) := by
  intro x y a b F O H k Q st ra rb h o
  unfold dEqS at h
  split at h
  · rename_i r e
    obtain ⟨h1, h2⟩ := eqS_scal ra rb e
    exact ⟨h1, o _ _ F H _ h st.go (by rw [h2]; exact .bl _)⟩
  · exact h.elim
theorem pd_eq (ha : PD X a da) (hb : PD X b db) : PD X (.Compare a [.Eq] [b] pos) (dOp (dEqS fun r => r) da db) := pd_cmp op_eq od_eq ha hb
theorem pd_ne (ha : PD X a da) (hb : PD X b db) : PD X (.Compare a [.NotEq] [b] pos) (dOp (dEqS fun r => !r) da db) := pd_cmp op_ne od_ne ha hb
def isNon : D → Bool
  | .non => true
  | _ => false
theorem isNon_of {K : PySem.W.Frag} {F : Hp} {x : V} {a : D} (ra : Rep K F x a) : decide (x = .non) = isNon a := by
  cases ra <;> simp [isNon]
def dIsN (f : Bool → Bool) : R2D := fun a b O k => match b with
  | .non => k (.bl (f (isNon a))) O
  | _ => False
theorem od_isN {K : PySem.W.Frag} : OpD K (fun x y H Q => y = .non ∧ Q (.bl (decide (x = .non))) H) (dIsN fun r => r) := by
  intro x y a b F O H k Q st ra rb h o
  unfold dIsN at h
  split at h
  · cases rb
    exact ⟨rfl, o _ _ F H _ h st.go (by rw [isNon_of ra]; exact .bl _)⟩
  · exact h.elim
theorem od_notN {K : PySem.W.Frag} : OpD K (fun x y H Q => y = .non ∧ Q (.bl (!decide (x = .non))) H) (dIsN fun r => !r) := by
  intro x y a b F O H k Q st ra rb h o
  unfold dIsN at h
  split at h
  · cases rb
    exact ⟨rfl, o _ _ F H _ h st.go (by rw [isNon_of ra]; exact .bl _)⟩
  · exact h.elim
theorem pd_is (ha : PD X a da) (hb : PD X b db) : PD X (.Compare a [.Is] [b] pos) (dOp (dIsN fun r => r) da db) := pd_cmp op_isN od_isN ha hb
theorem pd_isnot (ha : PD X a da) (hb : PD X b db) : PD X (.Compare a [.IsNot] [b] pos) (dOp (dIsN fun r => !r) da db) := pd_cmp op_notN od_notN ha hb
end
end SC
namespace SC
open PySem PySem.Spec PyProof.Rows L2
/-! ### tests, and, or, not -/
section
variable {X : Cx} {a b c : Expr} {pos : Pos} {da db dc : DE} {ta tb tc : DT} {rest : List Expr}
def dB (t : DE) : DT := fun e O k => t e O fun d O1 => match d with
  | .bl b => k b O1
  | _ => False
theorem up_tb {t : DE} {σ : L2.St} {H : Hp} {Q : Bool → Hp → Prop} (h : upT X.K (dB t) σ H Q) : upE X.K t σ H fun x H1 => ∃ c, x = .bl c ∧ Q c H1 := by
  obtain ⟨F, e, O, k, st, er, h, o⟩ := h
  refine ⟨F, e, O, _, st, er, h, fun d O1 F1 H1 v h1 g1 r1 => ?_⟩
  try dsimp only at h1
  split at h1
  · cases r1
    exact ⟨_, rfl, o _ O1 F1 H1 h1 g1⟩
  · exact h1.elim
/-- a test that is a value -/
theorem ptd_val (h : PD X a da) (he : ∀ whole, isTrue a X.env whole = (do let v ← whole; standAt a.pos; holding [v] (truthy v)) := by intro _; rfl) : PTD X a (dB da) :=
  ⟨PT.weak (pt_val h.pe he) fun _ _ _ h => up_tb h⟩
theorem ptd_cmp {op : CmpOp} {r : R2} {rd : R2D} (ho : OpR X (compareOp op) r) (hr : OpD X.K r rd) (ha : PD X a da) (hb : PD X b db) (hm : behindInMarks op b = false := by first | exact nomark _ | rfl) : PTD X (.Compare a [op] [b] pos) (dB (dOp rd da db)) :=
  ⟨PT.weak (pt_cmpR ho ha.pe hb.pe hm) fun σ H Q h => up_op hr (up_tb h)⟩
theorem ptd_lt (ha : PD X a da) (hb : PD X b db) : PTD X (.Compare a [.Lt] [b] pos) (dB (dOp (dI0 fun i j => .bl (decide (i < j))) da db)) := ptd_cmp op_lt od_b0 ha hb
theorem ptd_le (ha : PD X a da) (hb : PD X b db) : PTD X (.Compare a [.LtE] [b] pos) (dB (dOp (dI0 fun i j => .bl (decide (i ≤ j))) da db)) := ptd_cmp op_le od_b0 ha hb
theorem ptd_gt (ha : PD X a da) (hb : PD X b db) : PTD X (.Compare a [.Gt] [b] pos) (dB (dOp (dI0 fun i j => .bl (decide (j < i))) da db)) := ptd_cmp op_gt od_b0 ha hb
theorem ptd_ge (ha : PD X a da) (hb : PD X b db) : PTD X (.Compare a [.GtE] [b] pos) (dB (dOp (dI0 fun i j => .bl (decide (j ≤ i))) da db)) := ptd_cmp op_ge od_b0 ha hb
theorem ptd_eq (ha : PD X a da) (hb : PD X b db) : PTD X (.Compare a [.Eq] [b] pos) (dB (dOp (dEqS fun r => r) da db)) := ptd_cmp op_eq od_eq ha hb
theorem ptd_ne (ha : PD X a da) (hb : PD X b db) : PTD X (.Compare a [.NotEq] [b] pos) (dB (dOp (dEqS fun r => !r) da db)) := ptd_cmp op_ne od_ne ha hb
theorem ptd_is (ha : PD X a da) (hb : PD X b db) : PTD X (.Compare a [.Is] [b] pos) (dB (dOp (dIsN fun r => r) da db)) := ptd_cmp op_isN od_isN ha hb
theorem ptd_isnot (ha : PD X a da) (hb : PD X b db) : PTD X (.Compare a [.IsNot] [b] pos) (dB (dOp (dIsN fun r => !r) da db)) := ptd_cmp op_notN od_notN ha hb
def dAnd (t u : DT) : DT := fun e O k => t e O fun b O1 => match b with
  | true => u e O1 k
  | false => k false O1
def dOr (t u : DT) : DT := fun e O k => t e O fun b O1 => match b with
  | true => k true O1
  | false => u e O1 k
def dNot (t : DT) : DT := fun e O k => t e O fun b O1 => k (!b) O1
theorem up_and {σ : L2.St} {H : Hp} {Q : Bool → Hp → Prop} (h : upT X.K (dAnd ta tb) σ H Q) : tAnd (upT X.K ta) (upT X.K tb) σ H Q := by
  obtain ⟨F, e, O, k, st, er, h, o⟩ := h
  refine ⟨F, e, O, _, st, er, h, fun d O1 F1 H1 h1 g1 => ?_⟩
  cases d with
  | true => rw [if_pos rfl]; exact ⟨F1, e, O1, k, g1.stt, er.mono g1.same, h1, o.after g1⟩
  | false => rw [if_neg (by decide)]; exact o _ _ _ _ h1 g1
theorem up_or {σ : L2.St} {H : Hp} {Q : Bool → Hp → Prop} (h : upT X.K (dOr ta tb) σ H Q) : tOr (upT X.K ta) (upT X.K tb) σ H Q := by
  obtain ⟨F, e, O, k, st, er, h, o⟩ := h
  refine ⟨F, e, O, _, st, er, h, fun d O1 F1 H1 h1 g1 => ?_⟩
  cases d with
  | false => rw [if_neg (by decide)]; exact ⟨F1, e, O1, k, g1.stt, er.mono g1.same, h1, o.after g1⟩
  | true => rw [if_pos rfl]; exact o _ _ _ _ h1 g1
theorem pwd_and1 (ha : PTD X a ta) : PWD X (.BoolOp .And [a] pos) ta := ⟨pw_and1 ha.pt⟩
theorem pwd_or1 (ha : PTD X a ta) : PWD X (.BoolOp .Or [a] pos) ta := ⟨pw_or1 ha.pt⟩
theorem pwd_and (ha : PTD X a ta) (hb : PWD X (.BoolOp .And (b :: rest) pos) tb) : PWD X (.BoolOp .And (a :: b :: rest) pos) (dAnd ta tb) := ⟨PW.weak (pw_and ha.pt hb.pw) fun _ _ _ h => up_and h⟩
theorem pwd_or (ha : PTD X a ta) (hb : PWD X (.BoolOp .Or (b :: rest) pos) tb) : PWD X (.BoolOp .Or (a :: b :: rest) pos) (dOr ta tb) := ⟨PW.weak (pw_or ha.pt hb.pw) fun _ _ _ h => up_or h⟩
theorem ptd_w (h : PWD X a ta) : PTD X a ta := ⟨h.pw.pt⟩
theorem ptd_not (ha : PTD X a ta) : PTD X (.UnaryOp .Not a pos) (dNot ta) := by
  refine ⟨PT.weak (pt_not ha.pt) fun σ H Q h => ?_⟩
  obtain ⟨F, e, O, k, st, er, h, o⟩ := h
  exact ⟨F, e, O, _, st, er, h, fun d O1 F1 H1 h1 g1 => o _ _ _ _ h1 g1⟩
/-- and, or of flags, as values -/
def dAndV (t u : DE) : DE := fun e O k => t e O fun d O1 => match d with
  | .bl true => u e O1 k
  | .bl false => k (.bl false) O1
  | _ => False
def dOrV (t u : DE) : DE := fun e O k => t e O fun d O1 => match d with
  | .bl true => k (.bl true) O1
  | .bl false => u e O1 k
  | _ => False
theorem pd_one {op} (h : PD X a da) : PD X (.BoolOp op [a] pos) da := ⟨pe_one h.pe⟩
theorem pd_and (ha : PD X a da) (hb : PD X (.BoolOp .And (b :: rest) pos) db) : PD X (.BoolOp .And (a :: b :: rest) pos) (dAndV da db) := by
  refine ⟨PE.weak (pe_and ha.pe hb.pe) fun σ H Q h => ?_⟩
  obtain ⟨F, e, O, k, st, er, h, o⟩ := h
  refine ⟨F, e, O, _, st, er, h, fun d O1 F1 H1 v h1 g1 r1 => ?_⟩
  try dsimp only at h1
  split at h1
  · cases r1
    exact ⟨true, rfl, by rw [if_pos rfl]; exact ⟨F1, e, O1, k, g1.stt, er.mono g1.same, h1, o.after g1⟩⟩
  · cases r1
    exact ⟨false, rfl, by rw [if_neg (by decide)]; exact o _ _ _ _ _ h1 g1 (.bl _)⟩
  · exact h1.elim
theorem pd_or (ha : PD X a da) (hb : PD X (.BoolOp .Or (b :: rest) pos) db) : PD X (.BoolOp .Or (a :: b :: rest) pos) (dOrV da db) := by
  refine ⟨PE.weak (pe_or ha.pe hb.pe) fun σ H Q h => ?_⟩
  obtain ⟨F, e, O, k, st, er, h, o⟩ := h
  refine ⟨F, e, O, _, st, er, h, fun d O1 F1 H1 v h1 g1 r1 => ?_⟩
  try dsimp only at h1
  split at h1
  · cases r1
    exact ⟨true, rfl, by rw [if_pos rfl]; exact o _ _ _ _ _ h1 g1 (.bl _)⟩
  · cases r1
    exact ⟨false, rfl, by rw [if_neg (by decide)]; exact ⟨F1, e, O1, k, g1.stt, er.mono g1.same, h1, o.after g1⟩⟩
  · exact h1.elim
def dNotV (t : DE) : DE := fun e O k => t e O fun d O1 => match d with
  | .bl b => k (.bl (!b)) O1
  | _ => False
theorem pd_not (ha : PD X a da) : PD X (.UnaryOp .Not a pos) (dNotV da) := by
  refine ⟨PE.weak (pe_not ha.pe) fun σ H Q h => ?_⟩
  obtain ⟨F, e, O, k, st, er, h, o⟩ := h
  refine ⟨F, e, O, _, st, er, h, fun d O1 F1 H1 v h1 g1 r1 => ?_⟩
  try dsimp only at h1
  split at h1
  · cases r1
    exact ⟨_, rfl, o _ _ _ _ _ h1 g1 (.bl _)⟩
  · exact h1.elim
def dIfE (t : DT) (u v : DE) : DE := fun e O k => t e O fun b O1 => match b with
  | true => u e O1 k
  | false => v e O1 k
theorem pd_ifE (hc : PTD X c tc) (ha : PD X a da) (hb : PD X b db) : PD X (.IfExp c a b pos) (dIfE tc da db) := by
  refine ⟨PE.weak (pe_ifExp hc.pt ha.pe hb.pe) fun σ H Q h => ?_⟩
  obtain ⟨F, e, O, k, st, er, h, o⟩ := h
  refine ⟨F, e, O, _, st, er, h, fun d O1 F1 H1 h1 g1 => ?_⟩
  cases d with
  | true => rw [if_pos rfl]; exact ⟨F1, e, O1, k, g1.stt, er.mono g1.same, h1, o.after g1⟩
  | false => rw [if_neg (by decide)]; exact ⟨F1, e, O1, k, g1.stt, er.mono g1.same, h1, o.after g1⟩
/-- a op b op' c -/
def dChain (r r' : R2D) (ta tb tc : DE) : DE := fun e O k => ta e O fun x O1 => tb e O1 fun y O2 => r x y O2 fun z O3 => match z with
  | .bl true => tc e O3 fun w O4 => r' y w O4 k
  | .bl false => k (.bl false) O3
  | _ => False
theorem up_chain {r r' : R2} {rd rd' : R2D} (hr : OpD X.K r rd) (hr' : OpD X.K r' rd') {σ : L2.St} {H : Hp} {Q : VK} (h : upE X.K (dChain rd rd' da db dc) σ H Q) : tChain r r' (upE X.K da) (upE X.K db) (upE X.K dc) σ H Q := by
  obtain ⟨F, e, O, k, st, er, h, o⟩ := h
  refine ⟨F, e, O, _, st, er, h, fun d O1 F1 H1 v h1 g1 r1 => ⟨F1, e, O1, _, g1.stt, er.mono g1.same, h1, fun d2 O2 F2 H2 v2 h2 g2 r2 => hr v v2 d d2 F2 O2 H2 _ _ g2.stt (r1.mono g2.same) r2 h2 fun d3 O3 F3 H3 v3 h3 g3 r3 => ?_⟩⟩
  try dsimp only at h3
  split at h3
  · cases r3
    refine ⟨true, rfl, ?_⟩
    rw [if_pos rfl]
    exact ⟨F3, e, O3, _, g3.stt, er.mono (g1.same.trans (g2.same.trans g3.same)), h3, fun d4 O4 F4 H4 v4 h4 g4 r4 => hr' v2 v4 d2 d4 F4 O4 H4 k Q g4.stt (r2.mono (g3.same.trans g4.same)) r4 h4 (o.after (g1.trans (g2.trans (g3.trans g4))))⟩
  · cases r3
    refine ⟨false, rfl, ?_⟩
    rw [if_neg (by decide)]
    exact o _ _ _ _ _ h3 (g1.trans (g2.trans g3)) (.bl _)
  · exact h3.elim
theorem pd_chain {op op' : CmpOp} {r r' : R2} {rd rd' : R2D} (ho : OpR X (compareOp op) r) (ho' : OpR X (compareOp op') r') (hr : OpD X.K r rd) (hr' : OpD X.K r' rd') (ha : PD X a da) (hb : PD X b db) (hc : PD X c dc)
    (hm : lastMarks [op, op'] [b, c] = false := by with_unfolding_all rfl) : PD X (.Compare a [op, op'] [b, c] pos) (dChain rd rd' da db dc) :=
  ⟨PE.weak (pe_chain ho ho' ha.pe hb.pe hc.pe hm) fun _ _ _ h => up_chain hr hr' h⟩
theorem ptd_chain {op op' : CmpOp} {r r' : R2} {rd rd' : R2D} (ho : OpR X (compareOp op) r) (ho' : OpR X (compareOp op') r') (hr : OpD X.K r rd) (hr' : OpD X.K r' rd') (ha : PD X a da) (hb : PD X b db) (hc : PD X c dc)
    (hm : lastMarks [op, op'] [b, c] = false := by with_unfolding_all rfl) : PTD X (.Compare a [op, op'] [b, c] pos) (dB (dChain rd rd' da db dc)) :=
  ⟨PT.weak (pt_chain ho ho' ha.pe hb.pe hc.pe hm) fun _ _ _ h => up_chain hr hr' (up_tb h)⟩
theorem pd_lele (ha : PD X a da) (hb : PD X b db) (hc : PD X c dc) (hm : lastMarks [.LtE, .LtE] [b, c] = false := by with_unfolding_all rfl) : PD X (.Compare a [.LtE, .LtE] [b, c] pos) (dChain (dI0 fun i j => .bl (decide (i ≤ j))) (dI0 fun i j => .bl (decide (i ≤ j))) da db dc) := pd_chain op_le op_le od_b0 od_b0 ha hb hc hm
end

/-! ### arguments, displays -/
section
variable {X : Cx} {a b : Expr} {es : List Expr} {pos : Pos} {da db : DE} {ds : DA}
def dNil : DA := fun _ O k => k [] O
def dCons (t : DE) (u : DA) : DA := fun e O k => t e O fun x O1 => u e O1 fun xs O2 => k (x :: xs) O2
theorem pad_nil : PAD X [] dNil := by
  refine ⟨PA.weak pa_nil fun σ H Q h => ?_⟩
  obtain ⟨F, e, O, k, st, er, h, o⟩ := h
  exact o _ _ _ _ _ h st.go .nil
theorem pad_cons (ha : PD X a da) (hr : PAD X es ds) (hs : starEach (a :: es) X.env = (false, eval a X.env) :: starEach es X.env := by rfl) : PAD X (a :: es) (dCons da ds) := by
  refine ⟨PA.weak (pa_cons ha.pe hr.pa hs) fun σ H Q h => ?_⟩
  obtain ⟨F, e, O, k, st, er, h, o⟩ := h
  exact ⟨F, e, O, _, st, er, h, fun d O1 F1 H1 v h1 g1 r1 => ⟨F1, e, O1, _, g1.stt, er.mono g1.same, h1, fun d2 O2 F2 H2 v2 h2 g2 r2 => o _ _ _ _ _ h2 (g1.trans g2) (.cons (r1.mono g2.same) r2)⟩⟩
def dTup (t : DA) : DE := fun e O k => t e O fun xs O1 => xs.length ≤ sizeLine ∧ k (.tup xs) O1
def dLst (t : DA) : DE := fun e O k => t e O fun xs O1 => xs.length ≤ sizeLine ∧ k (.lst xs) O1
def dLstO (t : DA) : DE := fun e O k => t e O fun xs O1 => xs.length ≤ sizeLine ∧ ∀ p, O1 p = none → k (.own p) (oset O1 p xs)
theorem pd_tup {x1} (h : PAD X es ds) : PD X (.Tuple es x1 pos) (dTup ds) := by
  refine ⟨PE.weak (pe_tup h.pa) fun σ H Q h => ?_⟩
  obtain ⟨F, e, O, k, st, er, h, o⟩ := h
  exact ⟨F, e, O, _, st, er, h, fun d O1 F1 H1 v h1 g1 r1 => ⟨by rw [r1.length]; exact h1.1, fun p n =>
    o _ _ _ _ _ h1.2 (g1.trans (g1.stt.made n)) (.tup (.of upd_same) (r1.mono (same_upd (free_F g1.stt n))))⟩⟩
theorem pd_lst (h : PAD X es ds) : PD X (.List es pos) (dLst ds) := by
  refine ⟨PE.weak (pe_lst h.pa) fun σ H Q h => ?_⟩
  obtain ⟨F, e, O, k, st, er, h, o⟩ := h
  exact ⟨F, e, O, _, st, er, h, fun d O1 F1 H1 v h1 g1 r1 => ⟨by rw [r1.length]; exact h1.1, fun p n =>
    o _ _ _ _ _ h1.2 (g1.trans (g1.stt.made n)) (.lst upd_same (r1.mono (same_upd (free_F g1.stt n))))⟩⟩
theorem pd_lstO (h : PAD X es ds) : PD X (.List es pos) (dLstO ds) := by
  refine ⟨PE.weak (pe_lst h.pa) fun σ H Q h => ?_⟩
  obtain ⟨F, e, O, k, st, er, h, o⟩ := h
  exact ⟨F, e, O, _, st, er, h, fun d O1 F1 H1 v h1 g1 r1 => ⟨by rw [r1.length]; exact h1.1, fun p n =>
    o _ _ _ _ _ (h1.2 p (free_O g1.stt n)) (g1.trans (g1.stt.fresh n r1)) (.own p)⟩⟩
end

/-! ### calls of own defs -/
section
variable {X : Cx} {CX : CXT} {k : Nat} {f : Addr} {fd : FuncData} {ps : List Str} {sp : DSp} {x : Str} {p pos : Pos} {a : Expr} {es : List Expr} {da : DE} {t : DA}
def dCall (sp : DSp) (t : DA) : DE := fun e O k => t e O fun xs O1 => sp xs O1 k
theorem pd_call (Fn : FnOk X.prog X.w X.K X.mg X.base CX0 k f fd ps (upSp X.K sp)) (hr : Room k X.A) (hg : Gl X x) (hm : X.mg x = some (.ref f)) (hk : PySem.W.keepIn X.K (.ref f) = true) (hb : Binds X.K fd ps [])
    (ha : PAD X (a :: es) t) (h : PE X (.Call (.Name x p) (a :: es) [] pos) (tCall (upSp X.K sp) [] E0 (upA X.K t))) : PD X (.Call (.Name x p) (a :: es) [] pos) (dCall sp t) := by
  refine ⟨PE.weak h fun σ H Q h => ?_⟩
  obtain ⟨F, e, O, k, st, er, h, o⟩ := h
  exact ⟨F, e, O, _, st, er, h, fun ds O1 F1 H1 vs h1 g1 r1 => by show upSp _ sp (vs ++ []) H1 Q E0; rw [List.append_nil]; exact ⟨F1, ds, O1, k, g1.stt, r1, h1, o.after g1⟩⟩
end
/-- a call with its premises, where the context is known -/
theorem up_call {K : PySem.W.Frag} {sp : DSp} {t : DA} {σ : L2.St} {H : Hp} {Q : VK} (h : upE K (dCall sp t) σ H Q) : tCall (upSp K sp) [] E0 (upA K t) σ H Q := by
  obtain ⟨F, e, O, k, st, er, h, o⟩ := h
  exact ⟨F, e, O, _, st, er, h, fun ds O1 F1 H1 vs h1 g1 r1 => by show upSp _ sp (vs ++ []) H1 Q E0; rw [List.append_nil]; exact ⟨F1, ds, O1, k, g1.stt, r1, h1, o.after g1⟩⟩
theorem up_call0 {K : PySem.W.Frag} {sp : DSp} {σ : L2.St} {H : Hp} {Q : VK} (h : upE K (dCall sp dNil) σ H Q) : tCall (upSp K sp) [] E0 tNil σ H Q := by
  obtain ⟨F, e, O, k, st, er, h, o⟩ := h
  exact ⟨F, [], O, k, st, .nil, h, o⟩

/-! ### calls of built-ins by values -/
abbrev RCD := List D → OH → (D → OH → Prop) → Prop
def CallD (K : PySem.W.Frag) (r : List V → Hp → VK → Prop) (rd : RCD) : Prop := ∀ xs ds F O H k Q, Stt K F O H → Reps K F xs ds → rd ds O k → Outs K F O H k Q → r xs H Q
def dCB (rd : RCD) (t : DA) : DE := fun e O k => t e O fun xs O1 => rd xs O1 k
theorem up_cb {K : PySem.W.Frag} {r : List V → Hp → VK → Prop} {rd : RCD} {t : DA} (hr : CallD K r rd) {σ : L2.St} {H : Hp} {Q : VK} (h : upE K (dCB rd t) σ H Q) : tCB r (upA K t) σ H Q := by
  obtain ⟨F, e, O, k, st, er, h, o⟩ := h
  exact ⟨F, e, O, _, st, er, h, fun ds O1 F1 H1 vs h1 g1 r1 => hr vs ds F1 O1 H1 k Q g1.stt r1 h1 (o.after g1)⟩
def rLenD : RCD := fun ds O k => match ds with
  | [.tup xs] => k (.int xs.length) O
  | [.lst xs] => k (.int xs.length) O
  | [.fz xs] => k (.int xs.length) O
  | [.own p] => match O p with
    | some xs => k (.int xs.length) O
    | none => False
  | _ => False
theorem cd_len {K : PySem.W.Frag} : CallD K (fun xs H Q => ∃ p ys, xs = [.ref p] ∧ (SqL K H p ys ∨ SqT K H p ys) ∧ Q (.int ys.length) H) rLenD := by
  intro xs ds F O H k Q st r h o
  unfold rLenD at h
  split at h
  · cases r with
    | cons r1 r2 =>
      cases r2
      cases r1 with
      | tup q rr => exact ⟨_, _, rfl, .inr (Same.seqT st.same q), by rw [rr.length]; exact o _ _ _ _ _ h st.go (.int _)⟩
  · cases r with
    | cons r1 r2 =>
      cases r2
      cases r1 with
      | lst q rr => exact ⟨_, _, rfl, .inl (.of (st.same _ _ q)), by rw [rr.length]; exact o _ _ _ _ _ h st.go (.int _)⟩
  · cases r with
    | cons r1 r2 =>
      cases r2
      cases r1 with
      | fz q rr => exact ⟨_, _, rfl, .inl (st.same.seq q), by rw [rr.length]; exact o _ _ _ _ _ h st.go (.int _)⟩
  · cases r with
    | cons r1 r2 =>
      cases r2
      cases r1
      split at h
      · rename_i e
        obtain ⟨xs, q, rr⟩ := st.rel e
        exact ⟨_, _, rfl, .inl (.of q), by rw [rr.length]; exact o _ _ _ _ _ h st.go (.int _)⟩
      · exact h.elim
  · exact h.elim
def boolsD : List D → Option (List Bool)
  | [] => some []
  | .bl b :: r => (boolsD r).map (b :: ·)
  | _ :: _ => none
theorem boolsD_map : ∀ l : List Bool, boolsD (l.map D.bl) = some l
  | [] => rfl
  | b :: r => by show (boolsD (r.map D.bl)).map (b :: ·) = _; rw [boolsD_map r]; rfl
theorem boolsD_rep {K : PySem.W.Frag} {F : Hp} : ∀ {ds : List D} {vs : List V} {l : List Bool}, boolsD ds = some l → Reps K F vs ds → vs = l.map V.bl
  | [], _, _, h, .nil => by cases h; rfl
  | .bl b :: r, _, l, h, .cons q rr => by
    simp only [boolsD] at h
    cases e : boolsD r with
    | none => rw [e] at h; cases h
    | some l' =>
      rw [e] at h; cases h
      cases q
      rw [boolsD_rep e rr]; rfl
def rBools (f : List Bool → Bool) : RCD := fun ds O k => match ds with
  | [.lst xs] => match boolsD xs with
    | some l => k (.bl (f l)) O
    | none => False
  | _ => False
theorem cd_bools {K : PySem.W.Frag} {f : List Bool → Bool} : CallD K (fun vs H Q => ∃ (a : Addr) (bs : List Bool), vs = [V.ref a] ∧ SqL K H a (bs.map V.bl) ∧ Q (.bl (f bs)) H) (rBools f) := by
  intro xs ds F O H k Q st r h o
  unfold rBools at h
  split at h
  · cases r with
    | cons r1 r2 =>
      cases r2
      split at h
      · rename_i e
        cases r1 with
        | lst q rr =>
          have z := boolsD_rep e rr
          subst z
          exact ⟨_, _, rfl, .of (st.same _ _ q), o _ _ _ _ _ h st.go (.bl _)⟩
      · exact h.elim
  · exact h.elim
def rAbsD : RCD := fun ds O k => match ds with
  | [.int i] => k (.int (if i < 0 then -i else i)) O
  | _ => False
theorem cd_abs {K : PySem.W.Frag} : CallD K (fun xs H Q => ∃ i, xs = [.int i] ∧ Q (.int (if i < 0 then -i else i)) H) rAbsD := by
  intro xs ds F O H k Q st r h o
  unfold rAbsD at h
  split at h
  · cases r with
    | cons r1 r2 => cases r2; cases r1; exact ⟨_, rfl, o _ _ _ _ _ h st.go (.int _)⟩
  · exact h.elim
def rTwo (g : Int → Int → Int) : RCD := fun ds O k => match ds with
  | [.int i, .int j] => k (.int (g i j)) O
  | _ => False
theorem cd_two {K : PySem.W.Frag} {g : Int → Int → Int} : CallD K (fun xs H Q => ∃ i j, xs = [.int i, .int j] ∧ Q (.int (g i j)) H) (rTwo g) := by
  intro xs ds F O H k Q st r h o
  unfold rTwo at h
  split at h
  · cases r with
    | cons r1 r2 => cases r2 with
      | cons r3 r4 => cases r4; cases r1; cases r3; exact ⟨_, _, rfl, o _ _ _ _ _ h st.go (.int _)⟩
  · exact h.elim
def rIntD : RCD := fun ds O k => match ds with
  | [.int i] => k (.int i) O
  | [.bl b] => k (.int (if b then 1 else 0)) O
  | _ => False
theorem cd_int {K : PySem.W.Frag} : CallD K (fun xs H Q => (∃ i, xs = [.int i] ∧ Q (.int i) H) ∨ ∃ k, xs = [.bl k] ∧ Q (.int (if k then 1 else 0)) H) rIntD := by
  intro xs ds F O H k Q st r h o
  unfold rIntD at h
  split at h
  · cases r with
    | cons r1 r2 => cases r2; cases r1; exact .inl ⟨_, rfl, o _ _ _ _ _ h st.go (.int _)⟩
  · cases r with
    | cons r1 r2 => cases r2; cases r1; exact .inr ⟨_, rfl, o _ _ _ _ _ h st.go (.int _)⟩
  · exact h.elim
/-- isinstance of a built-in class -/
def tyD : D → Option String
  | .non => some "NoneType" | .bl _ => some "bool" | .int _ => some "int" | .str _ => some "str" | .tup _ => some "tuple" | .lst _ => some "list"
  | _ => none
def isTy (t n : String) : Bool := t == n || (t == "bool" && n == "int")
def rIsiD : RCD := fun ds O k => match ds with
  | [x, .ty n] => (n = "int" ∨ n = "bool" ∨ n = "str" ∨ n = "tuple" ∨ n = "list" ∨ n = "dict") ∧ match tyD x with
    | some t => k (.bl (isTy t n)) O
    | none => False
  | _ => False
theorem tyD_ty {K : PySem.W.Frag} {F O H} {x : V} {d : D} {t : String} (st : Stt K F O H) (r : Rep K F x d) (h : tyD d = some t) : TyX K H x (.type t) := by
  cases r with
  | non => cases h; exact .base .non
  | bl b => cases h; exact .base (.bl b)
  | int i => cases h; exact .base (.int i)
  | str x => cases h; exact .base (.str x)
  | ty n => cases h
  | own a => cases h
  | tup q _ =>
    cases h
    rcases q with (q | ⟨o, q⟩) | ⟨o, its, n, k, c, _⟩
    · exact .base (.tup (st.same _ _ q))
    · exact .fTuple (st.same _ _ q)
    · exact .kTuple k c
  | lst q _ =>
    cases h
    exact .base (.lst (st.same _ _ q))
  | fz q _ => cases h
theorem kit_isTy : ∀ t ∈ ["NoneType", "bool", "int", "str", "tuple", "list"], ∀ n ∈ ["int", "bool", "str", "tuple", "list", "dict"], kitB t n = some (isTy t n) := by decide +kernel
theorem tyD_mem {d : D} {t : String} (h : tyD d = some t) : t ∈ ["NoneType", "bool", "int", "str", "tuple", "list"] := by
  cases d <;> cases h <;> simp
theorem cd_isi {K : PySem.W.Frag} : CallD K (rIsi K) rIsiD := by
  intro xs ds F O H k Q st r h o
  unfold rIsiD at h
  split at h
  · obtain ⟨hn, h⟩ := h
    cases r with
    | cons r1 r2 => cases r2 with
      | cons r3 r4 =>
        cases r4; cases r3
        split at h
        · rename_i t e
          exact ⟨_, _, _, _, _, rfl, .ty _, tyD_ty st r1 e, kit_ty (kit_isTy _ (tyD_mem e) _ (by simpa using hn)), o _ _ _ _ _ h st.go (.bl _)⟩
        · exact h.elim
  · exact h.elim
/-- tuple(x) -/
def rTupD : R1D := fun d O k => match d with
  | .lst xs => k (.tup xs) O
  | .tup xs => k (.tup xs) O
  | .own p => match O p with
    | some xs => k (.tup xs) O
    | none => False
  | _ => False
theorem ud_tup {K : PySem.W.Frag} : UnD K (kTup K) rTupD := by
  intro x a F O H k Q st r h o
  unfold rTupD at h
  split at h
  · cases r with
    | lst q rr => exact .inl ⟨_, _, rfl, .of (st.same _ _ q), fun p n => o _ _ _ _ _ h (st.made n) (.tup (.of upd_same) (rr.mono (same_upd (free_F st n))))⟩
  · cases r with
    | tup q rr => exact .inr ⟨_, _, rfl, Same.seqT st.same q, o _ _ _ _ _ h st.go (.tup q rr)⟩
  · cases r
    split at h
    · rename_i e
      obtain ⟨xs, q, rr⟩ := st.rel e
      exact .inl ⟨_, _, rfl, .of q, fun p n => o _ _ _ _ _ h (st.made n) (.tup (.of upd_same) (rr.mono (same_upd (free_F st n))))⟩
    · exact h.elim
  · exact h.elim
section
variable {X : Cx} {a b : Expr} {es : List Expr} {x : Str} {p pos : Pos} {da : DE} {t : DA}
theorem pd_tuple (hg : Gl X "tuple") (hm : X.mg "tuple" = none) (ha : PD X a da) (na : starEach [a] X.env = (false, eval a X.env) :: starEach [] X.env := by rfl) : PD X (.Call (.Name "tuple" p) [a] [] pos) (dUn rTupD da) :=
  ⟨PE.weak (pe_tupleOf hg hm ha.pe na) fun σ H Q h => up_un ud_tup h⟩
theorem pd_tyc {n : String} (hg : Gl X x) (hm : X.mg x = none) (hv : bootBuiltins x = some (.type n)) (hn : x ≠ "__name__" := by decide) (hd : (x == ("__debug__" : Str)) = false := by decide) : PD X (.Name x p) (dC (.ty n)) :=
  pd_c (v := .ty n) (pe_bltn hg hm hv (show RelV (.ty n) (.type n) from rfl) hn hd) fun _ => .ty n
end

/-! ### subscripts, slices -/
def rIxD : R2D := fun a b O k => match a, b with
  | .tup xs, .int i => match atI xs i with
    | some d => k d O
    | none => False
  | .lst xs, .int i => match atI xs i with
    | some d => k d O
    | none => False
  | .fz xs, .int i => match atI xs i with
    | some d => k d O
    | none => False
  | .own p, .int i => match O p with
    | some xs => match atI xs i with
      | some d => k d O
      | none => False
    | none => False
  | _, _ => False
theorem od_ix {K : PySem.W.Frag} : OpD K (rIx K) rIxD := by
  intro x y a b F O H k Q st ra rb h o
  unfold rIxD at h
  split at h
  · split at h
    · rename_i e
      cases rb
      cases ra with
      | tup q rr =>
        obtain ⟨v, e', r⟩ := rr.atI e
        exact .inr (.inl ⟨_, _, _, v, rfl, rfl, Same.seqT st.same q, e', o _ _ _ _ _ h st.go r⟩)
    · exact h.elim
  · split at h
    · rename_i e
      cases rb
      cases ra with
      | lst q rr =>
        obtain ⟨v, e', r⟩ := rr.atI e
        exact .inl ⟨_, _, _, v, rfl, rfl, .of (st.same _ _ q), e', o _ _ _ _ _ h st.go r⟩
    · exact h.elim
  · split at h
    · rename_i e
      cases rb
      cases ra with
      | fz q rr =>
        obtain ⟨v, e', r⟩ := rr.atI e
        exact .inl ⟨_, _, _, v, rfl, rfl, st.same.seq q, e', o _ _ _ _ _ h st.go r⟩
    · exact h.elim
  · split at h
    · rename_i e0
      split at h
      · rename_i e
        cases rb
        cases ra
        obtain ⟨xs, q, rr⟩ := st.rel e0
        obtain ⟨v, e', r⟩ := rr.atI e
        exact .inl ⟨_, _, _, v, rfl, rfl, .of q, e', o _ _ _ _ _ h st.go r⟩
      · exact h.elim
    · exact h.elim
  · exact h.elim
abbrev DO := DV → OH → (Option Int → OH → Prop) → Prop
def upO (K : PySem.W.Frag) (t : DO) : TO := fun σ H Q => ∃ F e O k, Stt K F O H ∧ ERep K F σ e ∧ t e O k ∧ ∀ i O' F' H', k i O' → Go K F O H F' O' H' → Q i H'
structure POD (X : Cx) (e : Option Expr) (t : DO) : Prop where
  po : PO X e (upO X.K t)
def dPart0 : DO := fun _ O k => k none O
def dPart (t : DE) : DO := fun e O k => t e O fun d O1 => match d with
  | .int i => k (some i) O1
  | _ => False
section
variable {X : Cx} {a : Expr} {da : DE} {lo hi : Option Expr} {dl dh : DO} {pos p2 : Pos}
theorem pod_none : POD X none dPart0 := ⟨⟨fun pins s σ H Q I ⟨F, e, O, k, st, er, h, o⟩ => po_none.run pins s σ H Q I (o _ _ _ _ h st.go)⟩⟩
theorem pod_some (h : PD X a da) : POD X (some a) (dPart da) := by
  refine ⟨⟨fun pins s σ H Q I h' => (po_some h.pe).run pins s σ H Q I ?_⟩⟩
  obtain ⟨F, e, O, k, st, er, h, o⟩ := h'
  refine ⟨F, e, O, _, st, er, h, fun d O1 F1 H1 v h1 g1 r1 => ?_⟩
  try dsimp only at h1
  split at h1
  · cases r1
    exact ⟨_, rfl, o _ _ _ _ h1 g1⟩
  · exact h1.elim
def dSl (ta : DE) (tl th : DO) : DE := fun e O k => ta e O fun x O1 => tl e O1 fun l O2 => th e O2 fun u O3 => match x with
  | .tup xs => k (.tup (cutA xs l u)) O3
  | .lst xs => k (.lst (cutA xs l u)) O3
  | .fz xs => k (.lst (cutA xs l u)) O3
  | .own p => match O3 p with
    | some xs => k (.lst (cutA xs l u)) O3
    | none => False
  | _ => False
theorem cutV_all {xs : List V} {l u : Option Int} (h : HT.sIx xs.length 0 l = 0 ∧ HT.sIx xs.length xs.length u = xs.length) : cutV xs l u = xs := by
  unfold cutV
  rw [h.1, h.2, List.drop_zero, Nat.sub_zero, List.take_length]
theorem pd_slice (ha : PD X a da) (hl : POD X lo dl) (hh : POD X hi dh) : PD X (.Subscript a (.Slice lo hi none p2) pos) (dSl da dl dh) := by
  refine ⟨PE.weak (pe_slice (SlR.or sl_list sl_tupA) ha.pe hl.po hh.po) fun σ H Q h => ?_⟩
  obtain ⟨F, e, O, k, st, er, h, o⟩ := h
  refine ⟨F, e, O, _, st, er, h, fun d O1 F1 H1 v h1 g1 r1 => ⟨F1, e, O1, _, g1.stt, er.mono g1.same, h1, fun l O2 F2 H2 h2 g2 => ⟨F2, e, O2, _, g2.stt, er.mono (g1.same.trans g2.same), h2, fun u O3 F3 H3 h3 g3 => ?_⟩⟩⟩
  have g := g1.trans (g2.trans g3)
  have r3 := r1.mono (g2.same.trans g3.same)
  try dsimp only at h3
  split at h3
  · cases r3 with
    | @tup a xs ds q rr =>
      refine .inr ⟨_, _, rfl, Same.seqT g.stt.same q, fun w => ?_, fun w p n => ?_⟩
      · exact o _ _ _ _ _ h3 g (.tup q (by rw [← cutV_all w]; exact rr.cut l u))
      · exact o _ _ _ _ _ h3 (g.trans (g.stt.made n)) (.tup (.of upd_same) ((rr.cut l u).mono (same_upd (free_F g.stt n))))
  · cases r3 with
    | lst q rr => exact .inl ⟨_, _, rfl, .of (g.stt.same _ _ q), fun p n => o _ _ _ _ _ h3 (g.trans (g.stt.made n)) (.lst upd_same ((rr.cut l u).mono (same_upd (free_F g.stt n))))⟩
  · cases r3 with
    | fz q rr => exact .inl ⟨_, _, rfl, g.stt.same.seq q, fun p n => o _ _ _ _ _ h3 (g.trans (g.stt.made n)) (.lst upd_same ((rr.cut l u).mono (same_upd (free_F g.stt n))))⟩
  · cases r3
    split at h3
    · rename_i e0
      obtain ⟨xs, q, rr⟩ := g.stt.rel e0
      exact .inl ⟨_, _, rfl, .of q, fun p n => o _ _ _ _ _ h3 (g.trans (g.stt.made n)) (.lst upd_same ((rr.cut l u).mono (same_upd (free_F g.stt n))))⟩
    · exact h3.elim
  · exact h3.elim
/-- a list of one's own is changed no more from here on -/
def frzD (d : D) (O : OH) (k : D → OH → Prop) : Prop := match d with
  | .own p => match O p with
    | some xs => k (.lst xs) (odel O p)
    | none => False
  | d => k d O
def dFrz (t : DE) : DE := fun e O k => t e O fun d O1 => frzD d O1 k
theorem pd_frz (ha : PD X a da) : PD X a (dFrz da) := by
  refine ⟨PE.weak ha.pe fun σ H Q h => ?_⟩
  obtain ⟨F, e, O, k, st, er, h, o⟩ := h
  refine ⟨F, e, O, _, st, er, h, fun d O1 F1 H1 v h1 g1 r1 => ?_⟩
  try dsimp only at h1
  unfold frzD at h1
  split at h1
  · cases r1
    split at h1
    · rename_i e0
      obtain ⟨xs, q, rr⟩ := g1.stt.rel e0
      have z := g1.stt.freeze e0 q
      exact o _ _ _ _ _ h1 (g1.trans z) (.lst upd_same (rr.mono z.same))
    · exact h1.elim
  · exact o _ _ _ _ _ h1 g1 r1
end
end SC
namespace SC
open PySem PySem.Spec PyProof.Rows L2
/-! ### calls with their premises -/
section
variable {X : Cx} {CX : CXT} {k : Nat} {f : Addr} {fd : FuncData} {ps : List Str} {sp : DSp} {x : Str} {p pos : Pos} {a : Expr} {es : List Expr} {t : DA} {id T : String} {r : List V → Hp → VK → Prop} {rd : RCD}
theorem pd_callF (Fn : FnOk X.prog X.w X.K X.mg X.base CX0 k f fd ps (upSp X.K sp)) (hr : Room k X.A) (hg : Gl X x) (hm : X.mg x = some (.ref f)) (hk : PySem.W.keepIn X.K (.ref f) = true) (hb : Binds X.K fd ps [])
    (ha : PAD X (a :: es) t) (hdb : (x == ("__debug__" : Str)) = false := by decide) (he : starEach (a :: es) X.env = (false, eval a X.env) :: starEach es X.env := by rfl) (hpl : (backTo pos (starEach es X.env)).any (·.1) = false := by rfl) :
    PD X (.Call (.Name x p) (a :: es) [] pos) (dCall sp t) := ⟨PE.weak (pe_call Fn hr hg hm hk hb .nil pass0 ha.pa hdb he hpl) fun _ _ _ h => up_call h⟩
theorem pd_callF0 (Fn : FnOk X.prog X.w X.K X.mg X.base CX0 k f fd ps (upSp X.K sp)) (hr : Room k X.A) (hg : Gl X x) (hm : X.mg x = some (.ref f)) (hk : PySem.W.keepIn X.K (.ref f) = true) (hb : Binds X.K fd ps [])
    (hdb : (x == ("__debug__" : Str)) = false := by decide) : PD X (.Call (.Name x p) [] [] pos) (dCall sp dNil) := by
  refine ⟨PE.weak (pe_call0 Fn hr hg hm hk hb .nil pass0 hdb) fun σ H Q h => ?_⟩
  obtain ⟨F, e, O, k, st, er, h, o⟩ := h
  exact ⟨F, [], O, k, st, .nil, h, o⟩
theorem pd_callB (hc : CallR X (.builtin id) r) (hr : CallD X.K r rd) (hg : Gl X x) (hm : X.mg x = none) (hv : bootBuiltins x = some (.builtin id)) (ha : PAD X (a :: es) t) (hn : x ≠ "__name__" := by decide) (hdb : (x == ("__debug__" : Str)) = false := by decide)
    (he : starEach (a :: es) X.env = (false, eval a X.env) :: starEach es X.env := by rfl) (hpl : (backTo pos (starEach es X.env)).any (·.1) = false := by rfl) : PD X (.Call (.Name x p) (a :: es) [] pos) (dCB rd t) :=
  ⟨PE.weak (pe_callB hc hg hm hv ha.pa hn hdb he hpl) fun _ _ _ h => up_cb hr h⟩
theorem pd_callTy (hc : CallR X (.type T) r) (hr : CallD X.K r rd) (hg : Gl X x) (hm : X.mg x = none) (hv : bootBuiltins x = some (.type T)) (ha : PAD X (a :: es) t) (hn : x ≠ "__name__" := by decide) (hdb : (x == ("__debug__" : Str)) = false := by decide)
    (he : starEach (a :: es) X.env = (false, eval a X.env) :: starEach es X.env := by rfl) (hpl : (backTo pos (starEach es X.env)).any (·.1) = false := by rfl) : PD X (.Call (.Name x p) (a :: es) [] pos) (dCB rd t) :=
  ⟨PE.weak (pe_callTy hc hg hm hv ha.pa hn hdb he hpl) fun _ _ _ h => up_cb hr h⟩
end

/-! ### targets -/
theorem wipe_get : ∀ (ws : List Nat) (σ : L2.St) (j : Nat), (wipe σ ws)[j]? = if j ∈ ws then σ[j]?.map (fun _ => none) else σ[j]?
  | [], σ, j => by simp [wipe]
  | v :: vs, σ, j => by
    unfold wipe
    rw [List.getElem?_set, wipe_length]
    by_cases e : v = j
    · subst e
      by_cases l : v < σ.length
      · simp [l]
      · simp [l]
    · rw [if_neg e, wipe_get vs σ j]
      by_cases m : j ∈ vs
      · simp [m]
      · have : j ≠ v := fun z => e z.symm
        simp [m, this]
theorem wipe_set {σ : L2.St} {i : Nat} {x : Option V} {ws : List Nat} (h : i ∈ ws) : wipe (σ.set i x) ws = wipe σ ws := by
  apply List.ext_getElem?
  intro j
  rw [wipe_get, wipe_get, List.getElem?_set]
  by_cases e : i = j
  · subst e
    rw [if_pos h, if_pos h]
    by_cases l : i < σ.length
    · simp [l]
    · simp [l]
  · rw [if_neg e]
abbrev DG := D → DV → OH → (DV → Prop) → Prop
abbrev DGs := List D → DV → OH → (DV → Prop) → Prop
def GOut (K : PySem.W.Frag) (F : Hp) (is : List Nat) (σ : L2.St) (k : DV → Prop) (H : Hp) (Q : L2.St → Hp → Prop) : Prop := ∀ e' σ', k e' → ERep K F σ' e' → (∀ ws, (∀ i ∈ is, i ∈ ws) → wipe σ' ws = wipe σ ws) → Q σ' H
def GD (K : PySem.W.Frag) (t : TG) (g : DG) (is : List Nat) : Prop := ∀ v d F e O σ H k Q, Stt K F O H → ERep K F σ e → Rep K F v d → g d e O k → GOut K F is σ k H Q → t v σ H Q
def GDs (K : PySem.W.Frag) (t : TGs) (g : DGs) (is : List Nat) : Prop := ∀ v d F e O σ H k Q, Stt K F O H → ERep K F σ e → Reps K F v d → g d e O k → GOut K F is σ k H Q → t v σ H Q
structure PGD (X : Cx) (tg : Expr) (t : TG) (g : DG) (is : List Nat) : Prop where
  pg : PG X tg t
  ok : GD X.K t g is
structure PGDs (X : Cx) (tg : List Expr) (t : TGs) (g : DGs) (is : List Nat) : Prop where
  pg : PGs X tg t
  ok : GDs X.K t g is
def dNm (i : Nat) : DG := fun d e _ k => k (e.set i (some d))
def dGNil : DGs := fun ds e _ k => match ds with
  | [] => k e
  | _ => False
def dGCons (g : DG) (gs : DGs) : DGs := fun ds e O k => match ds with
  | d :: r => g d e O fun e' => gs r e' O k
  | [] => False
def dTg (n : Nat) (gs : DGs) : DG := fun d e O k => match d with
  | .tup ds => ds.length = n ∧ gs ds e O k
  | _ => False
section
variable {X : Cx} {pos : Pos}
theorem pgd_name {i : Nat} {x : Str} (hN : X.N.Nodup) (hi : X.N[i]? = some x) (hx : Loc X.env.scope x) (hf : X.fn x = true ∨ X.env.scope.names.lookup x = some .local := by first | exact .inl rfl | exact .inr rfl | assumption) : PGD X (.Name x pos) (gName i) (dNm i) [i] :=
  ⟨pg_name hN hi hx hf, fun v d F e O σ H k Q st er r h o => o _ _ h (er.set r i) fun ws hw => wipe_set (hw i (by simp))⟩
theorem pgds_nil : PGDs X [] gNil dGNil [] := by
  refine ⟨pgs_nil, fun v d F e O σ H k Q st er r h o => ?_⟩
  unfold dGNil at h
  split at h
  · cases r
    exact ⟨rfl, o _ _ h er fun _ _ => rfl⟩
  · exact h.elim
theorem pgds_cons {a : Expr} {es : List Expr} {t : TG} {u : TGs} {g : DG} {gs : DGs} {is js : List Nat} (h1 : PGD X a t g is) (h2 : PGDs X es u gs js) (hs : (assignEach (a :: es) X.env).map (·.2) = assign a X.env :: (assignEach es X.env).map (·.2) := by rfl) : PGDs X (a :: es) (gCons t u) (dGCons g gs) (is ++ js) := by
  obtain ⟨p, q⟩ := h1
  obtain ⟨p2, q2⟩ := h2
  refine ⟨pgs_cons p p2 hs, fun v d F e O σ H k Q st er r h o => ?_⟩
  unfold dGCons at h
  split at h
  · cases r with
    | cons r1 r2 =>
      exact ⟨_, _, rfl, q _ _ F e O σ H _ _ st er r1 h fun e1 σ1 h1 er1 w1 => q2 _ _ F e1 O σ1 H k _ st er1 r2 h1 fun e2 σ2 h2 er2 w2 => o e2 σ2 h2 er2 fun ws hw =>
        (w2 ws fun i m => hw i (List.mem_append_right _ m)).trans (w1 ws fun i m => hw i (List.mem_append_left _ m))⟩
  · exact h.elim
theorem pgd_tup {es : List Expr} {k : Nat} {t : TGs} {gs : DGs} {is : List Nat} {n : Nat} {K : PySem.W.Frag} (hc : X.calm = true) (h : PGDs X es t gs is) (hK : X.K = K := by rfl) (hn : (assignEach es X.env).length = n := by rfl) (hst : (assignEach es X.env).findIdx? (·.1) = none := by rfl) : PGD X (.Tuple es k pos) (gTup K n t) (dTg n gs) is := by
  subst hK
  obtain ⟨p, q⟩ := h
  refine ⟨pg_tup hc p hn hst, fun v d F e O σ H k Q st er r h o => ?_⟩
  unfold dTg at h
  split at h
  · cases r with
    | tup s rr => exact ⟨_, _, rfl, Same.seqT st.same s, rr.length.trans h.1, q _ _ F e O σ H k _ st er rr h.2 o⟩
  · exact h.elim
end

/-! ### what is walked -/
structure ItOk (K : PySem.W.Frag) (F1 : Hp) (J : It) (items : List D) : Prop where
  ok : ∃ (G : Hp → Prop) (Y : Nat → Hp → V → Hp → Prop), Walk J items.length G Y ∧ (∀ H, Same F1 H → G H) ∧
    ∀ i H x H' F' O', i < items.length → Same F1 F' → Stt K F' O' H → Y i H x H' → ∃ d F'', items[i]? = some d ∧ Go K F' O' H F'' O' H' ∧ Rep K F'' x d
abbrev DI := DV → OH → (List D → OH → Prop) → Prop
structure PID (X : Cx) (tg iter : Expr) (di : DI) : Prop where
  pi : ∃ wi, PI X tg iter wi ∧ ∀ σ H R F e O k, Stt X.K F O H → ERep X.K F σ e → di e O k → (∀ items O1 F1 H1 J, k items O1 → Go X.K F O H F1 O1 H1 → ItOk X.K F1 J items → R J H1) → wi σ H R
section
variable {X : Cx} {a b : Expr} {tg : Expr} {da db : DE} {p pos : Pos}
theorem it_list {K : PySem.W.Frag} {F1 : Hp} {l : Addr} {xs : List V} {ds : List D} (q : SqL K F1 l xs) (r : Reps K F1 xs ds) : ItOk K F1 (Itl K l) ds := by
  refine ⟨_, _, by rw [← r.length]; exact walk_list, fun H s => s.seq q, fun i H x H' F' O' hi s st y => ?_⟩
  obtain ⟨e, y⟩ := y
  subst e
  obtain ⟨d, h1, h2⟩ := r.getV y
  exact ⟨d, F', h1, st.go, h2.mono s⟩
theorem it_tup {K : PySem.W.Frag} {F1 : Hp} {l : Addr} {xs : List V} {ds : List D} (q : SqT K F1 l xs) (r : Reps K F1 xs ds) : ItOk K F1 (Itt K l) ds := by
  refine ⟨_, _, by rw [← r.length]; exact walk_tup, fun H s => Same.seqT s q, fun i H x H' F' O' hi s st y => ?_⟩
  obtain ⟨e, y⟩ := y
  subst e
  obtain ⟨d, h1, h2⟩ := r.getV y
  exact ⟨d, F', h1, st.go, h2.mono s⟩
/-- a list or a tuple is walked -/
def iSeq (K : PySem.W.Frag) (tl : TE) : TI := fun σ H R => tl σ H fun x H1 => ∃ a, x = .ref a ∧ (((∃ xs, SqL K H1 a xs) ∧ R (Itl K a) H1) ∨ ((∃ xs, SqT K H1 a xs) ∧ R (Itt K a) H1))
theorem pi_seq {l : Expr} {tl : TE} (hl : PE X l tl) : PI X tg l (iSeq X.K tl) := by
  refine ⟨fun pins s σ H R I h => ?_⟩
  refine thn (hl.run pins s σ H _ I h) fun v s1 ⟨x, H1, I1, r1, q1⟩ => ?_
  obtain ⟨a, e, q1⟩ := q1
  subst e
  cases r1
  rcases q1 with ⟨⟨xs, hq⟩, q⟩ | ⟨⟨xs, hq⟩, q⟩
  · obtain ⟨its, rv, p, hz⟩ := I1.list hq
    refine wpAny_pyIter_list p.isList ?_
    refine ⟨s1.heap.objs.size, [s1.heap.objs.size], _, _, H1, rfl, I1.kept (t' := s1.toks) fun b o e => Heap.get?_push_of_some _ e, turn_list a _, ⟨_, Heap.get?_push_size _ rfl, rfl, rfl⟩, fun b hb => ?_, q⟩
    have e : b = s1.heap.objs.size := by simpa using hb
    subst e
    exact I1.fpOk (Nat.le_refl _) (I1.hok.fresh (Nat.le_refl _))
  · obtain ⟨its, rv, p, hz⟩ := I1.tuple hq
    refine wpAny_pyIter_tuple (show s1.heap.IsTuple a its.toArray from p) ?_
    refine ⟨s1.heap.objs.size, [s1.heap.objs.size], _, _, H1, rfl, I1.kept (t' := s1.toks) fun b o e => Heap.get?_push_of_some _ e, turn_tuple a _, ⟨_, Heap.get?_push_size _ rfl, rfl, rfl⟩, fun b hb => ?_, q⟩
    have e : b = s1.heap.objs.size := by simpa using hb
    subst e
    exact I1.fpOk (Nat.le_refl _) (I1.hok.fresh (Nat.le_refl _))
def dSeq (t : DE) : DI := fun e O k => t e O fun d O1 => match d with
  | .lst xs => k xs O1
  | .fz xs => k xs O1
  | .tup xs => k xs O1
  | _ => False
theorem pid_seq (ha : PD X a da) : PID X tg a (dSeq da) := by
  refine ⟨_, pi_seq ha.pe, fun σ H R F e O k st er h o => ⟨F, e, O, _, st, er, h, fun d O1 F1 H1 v h1 g1 r1 => ?_⟩⟩
  try dsimp only at h1
  split at h1
  · cases r1 with
    | lst q rr => exact ⟨_, rfl, .inl ⟨⟨_, .of (g1.stt.same _ _ q)⟩, o _ _ F1 H1 _ h1 g1 (it_list (.of q) rr)⟩⟩
  · cases r1 with
    | fz q rr => exact ⟨_, rfl, .inl ⟨⟨_, g1.stt.same.seq q⟩, o _ _ F1 H1 _ h1 g1 (it_list q rr)⟩⟩
  · cases r1 with
    | tup q rr => exact ⟨_, rfl, .inr ⟨⟨_, Same.seqT g1.stt.same q⟩, o _ _ F1 H1 _ h1 g1 (it_tup q rr)⟩⟩
  · exact h1.elim
def rngD (lo : Int) (n : Nat) : List D := (List.range n).map fun i => .int (lo + (i : Nat))
theorem rngD_length (lo : Int) (n : Nat) : (rngD lo n).length = n := by simp [rngD]
theorem it_range {K : PySem.W.Frag} {F1 : Hp} {lo : Int} {n : Nat} : ItOk K F1 (Itr lo n) (rngD lo n) := by
  refine ⟨_, _, by rw [rngD_length]; exact walk_range, fun H s => trivial, fun i H x H' F' O' hi s st y => ?_⟩
  obtain ⟨e, y⟩ := y
  subst e y
  rw [rngD_length] at hi
  exact ⟨.int (lo + i), F', by simp [rngD, hi], st.go, .int _⟩
def dRng1 (t : DE) : DI := fun e O k => t e O fun d O1 => match d with
  | .int j => (-(2 ^ 62) ≤ j ∧ j < 2 ^ 62) ∧ k (rngD 0 j.toNat) O1
  | _ => False
def dRng2 (t u : DE) : DI := fun e O k => t e O fun d O1 => u e O1 fun d2 O2 => match d, d2 with
  | .int i, .int j => (-(2 ^ 62) ≤ i ∧ i < 2 ^ 62 ∧ -(2 ^ 62) ≤ j ∧ j < 2 ^ 62) ∧ k (rngD i (j - i).toNat) O2
  | _, _ => False
theorem pid_range1 (hg : Gl X "range") (hm : X.mg "range" = none) (ha : PD X a da) (hs : starEach [a] X.env = [(false, eval a X.env)] := by rfl) : PID X tg (.Call (.Name "range" p) [a] [] pos) (dRng1 da) := by
  refine ⟨_, pi_range1 hg hm (pa_cons ha.pe pa_nil (by rw [hs]; rfl)) hs, fun σ H R F e O k st er h o => ⟨F, e, O, _, st, er, h, fun d O1 F1 H1 v h1 g1 r1 => ?_⟩⟩
  try dsimp only at h1
  split at h1
  · cases r1
    exact ⟨_, rfl, h1.1.1, h1.1.2, o _ _ F1 H1 _ h1.2 g1 it_range⟩
  · exact h1.elim
theorem pid_range2 (hg : Gl X "range") (hm : X.mg "range" = none) (ha : PD X a da) (hb : PD X b db) (hs : starEach [a, b] X.env = [(false, eval a X.env), (false, eval b X.env)] := by rfl) (hs2 : starEach [b] X.env = [(false, eval b X.env)] := by rfl) :
    PID X tg (.Call (.Name "range" p) [a, b] [] pos) (dRng2 da db) := by
  refine ⟨_, pi_range2 hg hm (pa_cons ha.pe (pa_cons hb.pe pa_nil (by rw [hs2]; rfl)) (by rw [hs, hs2])) hs hs2, fun σ H R F e O k st er h o => ⟨F, e, O, _, st, er, h, fun d O1 F1 H1 v h1 g1 r1 => ⟨F1, e, O1, _, g1.stt, er.mono g1.same, h1, fun d2 O2 F2 H2 v2 h2 g2 r2 => ?_⟩⟩⟩
  try dsimp only at h2
  split at h2
  · cases r1; cases r2
    exact ⟨_, _, rfl, h2.1, o _ _ F2 H2 _ h2.2 (g1.trans g2) it_range⟩
  · exact h2.elim
/-- pairs -/
def pairsD : List D → List D → List D
  | x :: xs, y :: ys => .tup [x, y] :: pairsD xs ys
  | _, _ => []
theorem pairsD_length : ∀ xs ys : List D, (pairsD xs ys).length = min xs.length ys.length
  | [], _ => by simp [pairsD]
  | _ :: _, [] => by simp [pairsD]
  | x :: xs, y :: ys => by simp [pairsD, pairsD_length xs ys]
theorem pairsD_get : ∀ (xs ys : List D) (i : Nat) (x y : D), xs[i]? = some x → ys[i]? = some y → (pairsD xs ys)[i]? = some (.tup [x, y])
  | [], _, _, _, _, h, _ => by simp at h
  | _ :: _, [], _, _, _, _, h => by simp at h
  | a :: xs, b :: ys, 0, x, y, h, h2 => by simp at h h2; subst h h2; rfl
  | a :: xs, b :: ys, i + 1, x, y, h, h2 => pairsD_get xs ys i x y (by simpa using h) (by simpa using h2)
theorem pair_made {K : PySem.W.Frag} {F O H} {T : Addr} {x y : V} {c d : D} (st : Stt K F O H) (n : H T = none) (r1 : Rep K F x c) (r2 : Rep K F y d) : Go K F O H (upd F T (.tup [x, y])) O (upd H T (.tup [x, y])) ∧ Rep K (upd F T (.tup [x, y])) (.ref T) (.tup [c, d]) :=
  have s := same_upd (o := .tup [x, y]) (free_F st n)
  ⟨st.made n, .tup (.of upd_same) (.cons (r1.mono s) (.cons (r2.mono s) .nil))⟩
theorem it_zipL {K : PySem.W.Frag} {F1 : Hp} {l m : Addr} {xs ys : List V} {ds es : List D} (q : SqL K F1 l xs) (r : Reps K F1 xs ds) (q2 : SqL K F1 m ys) (r2 : Reps K F1 ys es) : ItOk K F1 (Itz K l m) (pairsD ds es) := by
  refine ⟨_, _, walk_zip (by rw [pairsD_length, r.length, r2.length]), fun H s => ⟨s.seq q, s.seq q2⟩, fun i H x H' F' O' hi s st y => ?_⟩
  obtain ⟨T, u, w, e, n, e2, h1, h2⟩ := y
  subst e e2
  obtain ⟨c, c1, c2⟩ := r.getV h1
  obtain ⟨d, d1, d2⟩ := r2.getV h2
  obtain ⟨g, rr⟩ := pair_made st n (c2.mono s) (d2.mono s)
  exact ⟨_, _, pairsD_get _ _ _ _ _ c1 d1, g, rr⟩
theorem walk_zipT {K : PySem.W.Frag} {a b : Addr} {xs ys : List V} {n : Nat} (hn : n = min xs.length ys.length) : Walk (RZ.ItzT K a b) n (fun H => SqT K H a xs ∧ SqT K H b ys) (YPair (fun i => xs[i]?) (fun i => ys[i]?)) := by
  subst hn
  refine ⟨fun i _ hi q => ?_, fun _ q => ⟨xs, ys, q.1, q.2, by omega⟩, fun i H v H' _ q y => ?_⟩
  · have h1 : i < xs.length := by omega
    have h2 : i < ys.length := by omega
    exact ⟨xs, ys, xs[i], ys[i], q.1, q.2, by simp [h1], by simp [h2]⟩
  · obtain ⟨T, x, z, h1, h2, h3, h4, h5⟩ := y
    exact ⟨T, x, z, h1, h2, h3, h4 xs q.1, h5 ys q.2⟩
theorem it_zipT {K : PySem.W.Frag} {F1 : Hp} {l m : Addr} {xs ys : List V} {ds es : List D} (q : SqT K F1 l xs) (r : Reps K F1 xs ds) (q2 : SqT K F1 m ys) (r2 : Reps K F1 ys es) : ItOk K F1 (RZ.ItzT K l m) (pairsD ds es) := by
  refine ⟨_, _, walk_zipT (by rw [pairsD_length, r.length, r2.length]), fun H s => ⟨Same.seqT s q, Same.seqT s q2⟩, fun i H x H' F' O' hi s st y => ?_⟩
  obtain ⟨T, u, w, e, n, e2, h1, h2⟩ := y
  subst e e2
  obtain ⟨c, c1, c2⟩ := r.getV h1
  obtain ⟨d, d1, d2⟩ := r2.getV h2
  obtain ⟨g, rr⟩ := pair_made st n (c2.mono s) (d2.mono s)
  exact ⟨_, _, pairsD_get _ _ _ _ _ c1 d1, g, rr⟩
def dZip (t u : DE) : DI := fun e O k => t e O fun d O1 => u e O1 fun d2 O2 => match d, d2 with
  | .lst xs, .lst ys => k (pairsD xs ys) O2
  | .tup xs, .tup ys => k (pairsD xs ys) O2
  | _, _ => False
theorem pid_zip {elts : List Expr} {kk : Nat} {tpos : Pos} (hg : Gl X "zip") (hm : X.mg "zip" = none) (ha : PD X a da) (hb : PD X b db) (hs : starEach [a, b] X.env = (false, eval a X.env) :: starEach [b] X.env := by rfl) (hs2 : starEach [b] X.env = [(false, eval b X.env)] := by rfl)
    (hpl : (backTo pos (starEach [b] X.env)).any (·.1) = false := by rfl) : PID X (.Tuple elts kk tpos) (.Call (.Name "zip" p) [a, b] [] pos) (dZip da db) := by
  refine ⟨_, RZ.pi_zipA hg hm (pa_cons ha.pe (pa_cons hb.pe pa_nil (by rw [hs2]; rfl)) hs) hs hpl, fun σ H R F e O k st er h o => ⟨F, e, O, _, st, er, h, fun d O1 F1 H1 v h1 g1 r1 => ⟨F1, e, O1, _, g1.stt, er.mono g1.same, h1, fun d2 O2 F2 H2 v2 h2 g2 r2 => ?_⟩⟩⟩
  try dsimp only at h2
  split at h2
  · cases r1 with
    | lst q rr => cases r2 with
      | lst q2 rr2 =>
        have q' := g2.same.seq (SqL.of (K := X.K) q)
        have q2 := SqL.of (K := X.K) q2
        exact ⟨_, _, _, _, rfl, .inl ⟨g2.stt.same.seq q', g2.stt.same.seq q2, o _ _ F2 H2 _ h2 (g1.trans g2) (it_zipL q' (rr.mono g2.same) q2 rr2)⟩⟩
  · cases r1 with
    | tup q rr => cases r2 with
      | tup q2 rr2 =>
        have q' := Same.seqT g2.same q
        exact ⟨_, _, _, _, rfl, .inr ⟨Same.seqT g2.stt.same q', Same.seqT g2.stt.same q2, o _ _ F2 H2 _ h2 (g1.trans g2) (it_zipT q' (rr.mono g2.same) q2 rr2)⟩⟩
  · exact h2.elim
def enumD (i : Nat) : List D → List D
  | [] => []
  | x :: xs => .tup [.int (i : Nat), x] :: enumD (i + 1) xs
theorem enumD_length : ∀ (i : Nat) (xs : List D), (enumD i xs).length = xs.length
  | _, [] => rfl
  | i, x :: xs => by simp [enumD, enumD_length (i + 1) xs]
theorem enumD_get : ∀ (xs : List D) (b i : Nat) (x : D), xs[i]? = some x → (enumD b xs)[i]? = some (.tup [.int ((b + i : Nat) : Int), x])
  | [], _, _, _, h => by simp at h
  | a :: xs, b, 0, x, h => by simp at h; subst h; rfl
  | a :: xs, b, i + 1, x, h => by
    have := enumD_get xs (b + 1) i x (by simpa using h)
    simp only [enumD, List.getElem?_cons_succ]
    rw [this, Nat.add_assoc, Nat.add_comm 1 i]
theorem it_enum {K : PySem.W.Frag} {F1 : Hp} {l : Addr} {xs : List V} {ds : List D} (q : SqL K F1 l xs) (r : Reps K F1 xs ds) : ItOk K F1 (Ite K l) (enumD 0 ds) := by
  refine ⟨_, _, by rw [enumD_length, ← r.length]; exact walk_enum, fun H s => s.seq q, fun i H x H' F' O' hi s st y => ?_⟩
  obtain ⟨T, u, w, e, n, e2, h1, h2⟩ := y
  subst e e2
  obtain ⟨d, d1, d2⟩ := r.getV h2
  have h1 : V.int (i : Nat) = u := Option.some.inj h1
  subst h1
  obtain ⟨g, rr⟩ := pair_made st n (.int (i : Nat)) (d2.mono s)
  refine ⟨_, _, ?_, g, rr⟩
  have z := enumD_get ds 0 i d d1
  rw [Nat.zero_add] at z
  exact z
def dEnum (t : DE) : DI := fun e O k => t e O fun d O1 => match d with
  | .lst xs => k (enumD 0 xs) O1
  | _ => False
theorem pid_enum {elts : List Expr} {kk : Nat} {tpos : Pos} (hg : Gl X "enumerate") (hm : X.mg "enumerate" = none) (ha : PD X a da) (hs : starEach [a] X.env = [(false, eval a X.env)] := by rfl) : PID X (.Tuple elts kk tpos) (.Call (.Name "enumerate" p) [a] [] pos) (dEnum da) := by
  refine ⟨_, pi_enum hg hm (pa_cons ha.pe pa_nil (by rw [hs]; rfl)) hs, fun σ H R F e O k st er h o => ⟨F, e, O, _, st, er, h, fun d O1 F1 H1 v h1 g1 r1 => ?_⟩⟩
  try dsimp only at h1
  split at h1
  · cases r1 with
    | lst q rr => exact ⟨_, _, rfl, .of (g1.stt.same _ _ q), o _ _ F1 H1 _ h1 g1 (it_enum (.of q) rr)⟩
  · exact h1.elim
end

/-! ### comprehensions -/
def relabelS (scope sc : Scope) : Scope :=
  { scope with names := scope.names.map fun (n, k) => if (k == .free && sc.kind == .function && sc.names.lookup n == some .cell) then (n, .cell) else (n, k) }
theorem relabel_S (scope : Scope) (env : Env) : relabel scope env = relabelS scope env.scope := rfl
def dAcc (g : DG) (tt : DT) (te : DE) (e : DV) (k : List D → OH → Prop) : List D → List D → OH → Prop
  | [], acc, O => k acc O
  | d :: ds, acc, O => g d e O fun e2 => tt e2 O fun b O2 => match b with
    | true => te e2 O2 fun y O3 => dAcc g tt te e k ds (acc ++ [y]) O3
    | false => dAcc g tt te e k ds acc O2
def dComp (di : DI) (g : DG) (tt : DT) (te : DE) (is : List Nat) : DE := fun e O k => di e O fun items O1 => items.length ≤ sizeLine ∧ dAcc g tt te (wipeD e is) (fun acc O2 => k (.lst acc) O2) items [] O1
structure PTsD (X : Cx) (ifs : List Expr) (t : DT) : Prop where
  pts : PTs X ifs (upT X.K t)
def dYes : DT := fun _ O k => k true O
theorem ptsd_nil {X : Cx} : PTsD X [] dYes := ⟨⟨fun pins s σ H Q I ⟨F, e, O, k, st, er, h, o⟩ => pts_nil.run pins s σ H Q I (o _ _ _ _ h st.go)⟩⟩
theorem ptsd_one {X : Cx} {c : Expr} {t : DT} (h : PTD X c t) : PTsD X [c] t := ⟨pts_one h.pt⟩
structure AccSt (K : PySem.W.Frag) (F1 : Hp) (O1 : OH) (H1 : Hp) (Dl : Addr) (n : Nat) (R : List D → OH → Prop) (H : Hp) : Prop where
  ok : ∃ F O acc xs, Go K F1 O1 H1 F O H ∧ H Dl = some (.lst xs) ∧ Reps K F xs acc ∧ F Dl = none ∧ O Dl = none ∧ acc.length ≤ n ∧ R acc O
theorem up_lc {K : PySem.W.Frag} {wi : TI} {gt : TG} {di : DI} {g : DG} {tt : DT} {te : DE} {is js : List Nat} (hjs : ∀ i ∈ js, i ∈ is)
    (hi : ∀ σ H R F e O k, Stt K F O H → ERep K F σ e → di e O k → (∀ items O1 F1 H1 J, k items O1 → Go K F O H F1 O1 H1 → ItOk K F1 J items → R J H1) → wi σ H R)
    (hg : ∀ v d F e O σ H k Q, Stt K F O H → ERep K F σ e → Rep K F v d → g d e O k → GOut K F js σ k H Q → gt v σ H Q)
    {σ : L2.St} {H : Hp} {Q : VK} (h : upE K (dComp di g tt te is) σ H Q) : tLc wi gt (upT K tt) (upE K te) is σ H Q := by
  obtain ⟨F, e, O, k, st, er, h, o⟩ := h
  refine hi σ H _ F e O _ st er h fun items O1 F1 H1 J h1 g1 it Dl nD => ?_
  obtain ⟨hz, h1⟩ := h1
  obtain ⟨G, Y, w, hG, hY⟩ := it.ok
  have erw : ERep K F1 (wipe σ is) (wipeD e is) := (er.mono g1.same).wipe is
  refine lc_it w (fun i H => AccSt K F1 O1 H1 Dl i (fun acc O => dAcc g tt te (wipeD e is) (fun acc O2 => k (.lst acc) O2) (items.drop i) acc O) H) ?_ ?_ ?_ ?_
  · exact ⟨F1, O1, [], [], g1.stt.junk nD, upd_same, .nil, free_F g1.stt nD, free_O g1.stt nD, Nat.le_refl _, h1⟩
  · intro i H _ p
    obtain ⟨F2, O2, acc, xs, g2, _⟩ := p.ok
    exact hG H (g2.same.trans g2.stt.same)
  · intro i x H2 H3 hin p y
    obtain ⟨F2, O2, acc, xs, g2, hD, rr, fD, oD, hl, h2⟩ := p.ok
    obtain ⟨d, F3, hd, g3, rd⟩ := hY i H2 x H3 F2 O2 hin g2.same g2.stt y
    have hdr : items.drop i = d :: items.drop (i + 1) := by
      rw [List.drop_eq_getElem_cons hin]
      congr 1
      rw [List.getElem?_eq_getElem hin] at hd
      exact Option.some.inj hd
    rw [hdr] at h2
    unfold dAcc at h2
    obtain ⟨hD3, fD3, oD3⟩ := g3.frame Dl _ hD fD oD
    refine hg x d F3 _ O2 _ H3 _ _ g3.stt (erw.mono (g2.same.trans g3.same)) rd h2 fun e4 σ4 h4 er4 w4 => ⟨?_, ?_⟩
    · rw [w4 is hjs]
      apply List.ext_getElem?
      intro j
      rw [wipe_get, wipe_get]
      split
      · cases σ[j]? <;> rfl
      · rfl
    · refine ⟨F3, e4, O2, _, g3.stt, er4, h4, fun b O5 F5 H5 h5 g5 => ?_⟩
      obtain ⟨hD5, fD5, oD5⟩ := g5.frame Dl _ hD3 fD3 oD3
      cases b with
      | true =>
        rw [if_pos rfl]
        refine ⟨F5, e4, O5, _, g5.stt, er4.mono g5.same, h5, fun y O6 F6 H6 v h6 g6 r6 => ?_⟩
        obtain ⟨hD6, fD6, oD6⟩ := g6.frame Dl _ hD5 fD5 oD5
        refine ⟨xs, hD6, ?_, ?_⟩
        · rw [rr.length]; omega
        · have s6 : Same F2 F6 := g3.same.trans (g5.same.trans g6.same)
          have gg := g2.trans (g3.trans (g5.trans g6))
          refine ⟨F6, O6, acc ++ [y], xs ++ [v], ?_, upd_same, (rr.mono s6).append (.cons r6 .nil), fD6, oD6, by simp; omega, h6⟩
          refine ⟨gg.same, ⟨fun b z q => ?_, fun a ds q => ?_⟩, fun a z q f u => ?_⟩
          · have ne : b ≠ Dl := fun z' => by rw [z', fD6] at q; cases q
            rw [upd_ne ne]; exact gg.stt.same _ _ q
          · obtain ⟨f, ys, hh, r'⟩ := gg.stt.own a ds q
            have ne : a ≠ Dl := fun z' => by rw [z', oD6] at q; cases q
            exact ⟨f, ys, by rw [upd_ne ne]; exact hh, r'⟩
          · obtain ⟨q1, q2, q3⟩ := gg.frame a z q f u
            have ne : a ≠ Dl := ne_of_none q nD
            exact ⟨by rw [upd_ne ne]; exact q1, q2, q3⟩
      | false =>
        rw [if_neg (by decide)]
        exact ⟨F5, O5, acc, xs, g2.trans (g3.trans g5), hD5, rr.mono (g3.same.trans g5.same), fD5, oD5, Nat.le_succ_of_le hl, h5⟩
  · intro H2 p
    obtain ⟨F2, O2, acc, xs, g2, hD, rr, fD, oD, hl, h2⟩ := p.ok
    rw [List.drop_length] at h2
    have s := same_upd (o := HO.lst xs) fD
    have st2 := g2.stt.known fD oD hD
    refine o _ O2 (upd F2 Dl (.lst xs)) H2 _ h2 (g1.trans ⟨g2.same.trans s, st2, fun a z q f u => ?_⟩) (.lst upd_same (rr.mono s))
    obtain ⟨q1, q2, q3⟩ := g2.frame a z q f u
    exact ⟨q1, by rw [upd_ne (ne_of_none q nD)]; exact q2, q3⟩
section
variable {X : Cx}
theorem pd_lc {elt tg iter : Expr} {ifs : List Expr} {scope : Scope} {own : List (Str × Nat)} {pos : Pos} {di : DI} {gt : TG} {g : DG} {tt : DT} {te : DE} {js : List Nat} (hc : X.calm = true) (hN : X.N.Nodup) (hi : PID X tg iter di) (ok : BlkOk X.N X.env.scope scope own)
    (hjs : ∀ i ∈ js, i ∈ own.map (·.2)) (hg : ∀ (s : Shared) (H : Hp) (C : Addr) (cl : List (Str × Addr)) (fp : List Addr), PGD (X.blk s H scope (compEnvC scope cl C X.env) fp) tg gt g js)
    (ht : ∀ (s : Shared) (H : Hp) (C : Addr) (cl : List (Str × Addr)) (fp : List Addr), PTsD (X.blk s H scope (compEnvC scope cl C X.env) fp) ifs tt)
    (he : ∀ (s : Shared) (H : Hp) (C : Addr) (cl : List (Str × Addr)) (fp : List Addr), PD (X.blk s H scope (compEnvC scope cl C X.env) fp) elt te) (hs : ∀ x, foldedSetIterable iter X.env x = pure x := by intro _; rfl) :
    PD X (.ListComp elt [⟨tg, iter, ifs, 0⟩] scope pos) (dComp di g tt te (own.map (·.2))) := by
  obtain ⟨wi, p, q⟩ := hi.pi
  exact ⟨⟨fun pins s σ H Q I h => (pe_lc hc hN p ok (fun s H C cl fp => (hg s H C cl fp).pg) (fun s H C cl fp => (ht s H C cl fp).pts) (fun s H C cl fp => (he s H C cl fp).pe) hs).run pins s σ H Q I (up_lc hjs q (hg s H 0 [] []).ok h)⟩⟩
end
end SC
namespace SC
open PySem PySem.Spec PyProof.Rows L2
/-! ### statements -/
section
variable {X : Cx} {a b c : Expr} {st : Stmt} {sts rest : List Stmt} {pos : Pos} {da db dc : DE} {dt : DT} {t u : DS}
def dSkip : DS := fun k e O => k.nx e O
def dThen (t u : DS) : DS := fun k e O => t { k with nx := u k } e O
theorem pbd_nil : PBD X [] dSkip := ⟨PSs.weak pss_nil fun D σ H ⟨F, e, O, k, st, er, h, o⟩ => o.nx _ _ _ _ _ h st.go er⟩
theorem pbd_cons (h1 : PSD X st t) (h2 : PBD X rest u) : PBD X (st :: rest) (dThen t u) := by
  refine ⟨PSs.weak (pss_cons h1.ps h2.pb) fun D σ H h => ?_⟩
  obtain ⟨F, e, O, k, st, er, h, o⟩ := h
  exact ⟨F, e, O, _, st, er, h, ⟨fun e1 O1 F1 H1 σ1 h1 g1 r1 => ⟨F1, e1, O1, k, g1.stt, r1, h1, o.after g1⟩, o.rt, o.bk, o.ct⟩⟩
theorem pbd_one (h1 : PSD X st t) : PBD X [st] t := ⟨pss_one h1.ps⟩
theorem psd_pass : PSD X (.Pass pos) dSkip := ⟨PS.weak ps_pass fun D σ H ⟨F, e, O, k, st, er, h, o⟩ => o.nx _ _ _ _ _ h st.go er⟩
def dBrk : DS := fun k e O => k.bk e O
def dCont : DS := fun k e O => k.ct e O
theorem psd_break : PSD X (.Break pos) dBrk := ⟨PS.weak ps_break fun D σ H ⟨F, e, O, k, st, er, h, o⟩ => o.bk _ _ _ _ _ h st.go er⟩
theorem psd_continue : PSD X (.Continue pos) dCont := ⟨PS.weak ps_continue fun D σ H ⟨F, e, O, k, st, er, h, o⟩ => o.ct _ _ _ _ _ h st.go er⟩
def dExpr (t : DE) : DS := fun k e O => t e O fun _ O1 => k.nx e O1
theorem psd_expr (ha : PD X a da) (hs : swapsWith a none pos.line X.env = pure false := by rfl) : PSD X (.Expr a pos) (dExpr da) := by
  refine ⟨PS.weak (ps_expr ha.pe hs) fun D σ H h => ?_⟩
  obtain ⟨F, e, O, k, st, er, h, o⟩ := h
  exact ⟨F, e, O, _, st, er, h, fun d O1 F1 H1 v h1 g1 r1 => o.nx _ _ _ _ _ h1 g1 (er.mono g1.same)⟩
def dRet (t : DE) : DS := fun k e O => t e O k.rt
theorem psd_ret (ha : PD X a da) : PSD X (.Return (some a) pos) (dRet da) := by
  refine ⟨PS.weak (ps_ret ha.pe) fun D σ H h => ?_⟩
  obtain ⟨F, e, O, k, st, er, h, o⟩ := h
  exact ⟨F, e, O, _, st, er, h, o.rt⟩
def dRetN : DS := fun k _ O => k.rt .non O
theorem psd_retN : PSD X (.Return none pos) dRetN := ⟨PS.weak ps_retN fun D σ H ⟨F, e, O, k, st, er, h, o⟩ => o.rt _ _ _ _ _ h st.go .non⟩
def dIf (c : DT) (t u : DS) : DS := fun k e O => c e O fun b O1 => match b with
  | true => t k e O1
  | false => u k e O1
theorem psd_if {bt bu : List Stmt} (hc : PTD X c dt) (ha : PBD X bt t) (hb : PBD X bu u) : PSD X (.If c bt bu pos) (dIf dt t u) := by
  refine ⟨PS.weak (ps_if hc.pt ha.pb hb.pb) fun D σ H h => ?_⟩
  obtain ⟨F, e, O, k, st, er, h, o⟩ := h
  refine ⟨F, e, O, _, st, er, h, fun b O1 F1 H1 h1 g1 => ?_⟩
  cases b with
  | true => rw [if_pos rfl]; exact ⟨F1, e, O1, k, g1.stt, er.mono g1.same, h1, o.after g1⟩
  | false => rw [if_neg (by decide)]; exact ⟨F1, e, O1, k, g1.stt, er.mono g1.same, h1, o.after g1⟩
def dSet (i : Nat) (t : DE) : DS := fun k e O => t e O fun d O1 => k.nx (e.set i (some d)) O1
theorem psd_set {i : Nat} {x : Str} {pos' : Pos} (hN : X.N.Nodup) (hi : X.N[i]? = some x) (hx : Loc X.env.scope x) (ha : PD X a da) (hs : swapsWith a (some (.Name x pos')) pos.line X.env = pure false := by rfl) (hf : X.fn x = true ∨ X.env.scope.names.lookup x = some .local := by first | exact .inl rfl | exact .inr rfl | assumption) :
    PSD X (.Assign [.Name x pos'] a pos) (dSet i da) := by
  refine ⟨PS.weak (ps_set hN hi hx ha.pe hs hf) fun D σ H h => ?_⟩
  obtain ⟨F, e, O, k, st, er, h, o⟩ := h
  exact ⟨F, e, O, _, st, er, h, fun d O1 F1 H1 v h1 g1 r1 => o.nx _ _ _ _ _ h1 g1 ((er.mono g1.same).set r1 i)⟩
def dAsg (t : DE) (g : DG) : DS := fun k e O => t e O fun d O1 => g d e O1 fun e1 => k.nx e1 O1
theorem psd_asg {tg : Expr} {gt : TG} {g : DG} {is : List Nat} (ha : PD X a da) (hg : PGD X tg gt g is) (hs : swapsWithSole [tg] a pos.line X.env = pure false := by rfl) (hw : swappedStores [tg] a X.env = pure none := by rfl)
    (h1 : (assignEach [tg] X.env).map (·.2) = [assign tg X.env] := by rfl) : PSD X (.Assign [tg] a pos) (dAsg da g) := by
  refine ⟨PS.weak (ps_asg ha.pe hg.pg hs hw h1) fun D σ H h => ?_⟩
  obtain ⟨F, e, O, k, st, er, h, o⟩ := h
  exact ⟨F, e, O, _, st, er, h, fun d O1 F1 H1 v h1 g1 r1 => hg.ok v d F1 e O1 σ H1 _ _ g1.stt (er.mono g1.same) r1 h1 fun e2 σ2 h2 er2 _ => o.nx _ _ _ _ _ h2 g1 er2⟩
def dPar (i j : Nat) (t : DA) : DS := fun k e O => t e O fun xs O1 => match xs with
  | [v, w] => k.nx ((e.set i (some v)).set j (some w)) O1
  | _ => False
theorem psd_par {i j : Nat} {x y : Str} {ta : DA} {px py pt : Pos} {kt k2 pt2} (hc : X.calm = true) (hN : X.N.Nodup) (hi : X.N[i]? = some x) (hj : X.N[j]? = some y) (hij : i ≠ j)
    (hx : X.env.scope.names.lookup x = some .local) (hy : X.env.scope.names.lookup y = some .local) (ha : PAD X [a, b] ta)
    (hw : swappedStores [.Tuple [.Name x px, .Name y py] kt pt] (.Tuple [a, b] k2 pt2) X.env = pure (some [x, y]))
    (hs : swapsWithSole [.Tuple [.Name x px, .Name y py] kt pt] (.Tuple [a, b] k2 pt2) pos.line X.env = pure false := by rfl) :
    PSD X (.Assign [.Tuple [.Name x px, .Name y py] kt pt] (.Tuple [a, b] k2 pt2) pos) (dPar i j ta) := by
  refine ⟨PS.weak (ps_par hc hN hi hj hij hx hy ha.pa hw hs) fun D σ H h => ?_⟩
  obtain ⟨F, e, O, k, st, er, h, o⟩ := h
  refine ⟨F, e, O, _, st, er, h, fun ds O1 F1 H1 vs h1 g1 r1 => ?_⟩
  try dsimp only at h1
  split at h1
  · cases r1 with
    | cons r1 r2 => cases r2 with
      | cons r2 r3 =>
        cases r3
        exact ⟨_, _, rfl, o.nx _ _ _ _ _ h1 g1 (((er.mono g1.same).set r1 i).set r2 j)⟩
  · exact h1.elim
/-- o[i] = e of a list of one's own -/
def dSetIx (to ti te : DE) : DS := fun k e O => te e O fun d O1 => to e O1 fun o O2 => ti e O2 fun i O3 => match o, i with
  | .own p, .int n => match O3 p with
    | some xs => match ixN xs.length n with
      | some j => k.nx e (oset O3 p (xs.set j d))
      | none => False
    | none => False
  | _, _ => False
theorem psd_setix {tpos : Pos} (ho : PD X b db) (hi : PD X c dc) (ha : PD X a da)
    (haa : ∀ v, assign (.Subscript b c tpos) X.env v = (do
      let ov ← holding [v] (eval b X.env)
      let iv ← holding [v, ov] (eval c X.env)
      standAt tpos
      holding [v, ov, iv] (setItem ov iv v)
      release [v, ov, iv] []) := by intro _; rfl)
    (hs : swapsWithSole [.Subscript b c tpos] a pos.line X.env = pure false := by rfl) (hw : swappedStores [.Subscript b c tpos] a X.env = pure none := by rfl)
    (h1 : (assignEach [.Subscript b c tpos] X.env).map (·.2) = [assign (.Subscript b c tpos) X.env] := by rfl) : PSD X (.Assign [.Subscript b c tpos] a pos) (dSetIx db dc da) := by
  refine ⟨PS.weak (ps_asg ha.pe (pg_sub ho.pe hi.pe set_list haa) hs hw h1) fun D σ H h => ?_⟩
  obtain ⟨F, e, O, k, st, er, h, o⟩ := h
  refine ⟨F, e, O, _, st, er, h, fun d O1 F1 H1 v h1 g1 r1 => ⟨F1, e, O1, _, g1.stt, er.mono g1.same, h1, fun d2 O2 F2 H2 v2 h2 g2 r2 => ⟨F2, e, O2, _, g2.stt, er.mono (g1.same.trans g2.same), h2, fun d3 O3 F3 H3 v3 h3 g3 r3 => ?_⟩⟩⟩
  have g := g1.trans (g2.trans g3)
  try dsimp only at h3
  split at h3
  · split at h3
    · rename_i e0
      split at h3
      · rename_i j e1
        cases r2; cases r3
        obtain ⟨xs, q, rr⟩ := g.stt.rel e0
        have z := g.stt.put (xs := xs.set j v) e0 (rr.set j (r1.mono (g2.same.trans g3.same)))
        exact ⟨_, _, _, _, rfl, rfl, q, by rw [rr.length]; exact e1, o.nx _ _ _ _ _ h3 (g.trans z) (er.mono (g.trans z).same)⟩
      · exact h3.elim
    · exact h3.elim
  · exact h3.elim
/-- o.append(e) of a list of one's own -/
def dApp (to te : DE) : DS := fun k e O => to e O fun o O1 => match o with
  | .own p => match O1 p with
    | some _ => te e O1 fun d O2 => match O2 p with
      | some ys => ys.length < sizeLine ∧ k.nx e (oset O2 p (ys ++ [d]))
      | none => False
    | none => False
  | _ => False
theorem psd_app {apos cpos : Pos} (ho : PD X a da) (ha : PD X b db) (hbase : attributeBase a "append" X.env (eval a X.env) = eval a X.env := by rfl)
    (hfew : ((backTo cpos (starEach [b] X.env)).all (fun x => !x.1) && (backToKw cpos (keywordEach [] X.env)).all (fun x => x.1.isSome)
      && decide ([b].length + ([] : List Keyword).length + (if ([] : List Keyword).isEmpty then 0 else 1) < 30)) = true := by rfl)
    (hline : (apos.endLine == cpos.line) = true := by rfl) (hs : starEach [b] X.env = (false, eval b X.env) :: starEach [] X.env := by rfl) (hplain : (backTo cpos (starEach [] X.env)).any (·.1) = false := by rfl)
    (hsw : swapsWith (.Call (.Attribute a "append" apos) [b] [] cpos) none pos.line X.env = pure false := by rfl) : PSD X (.Expr (.Call (.Attribute a "append" apos) [b] [] cpos) pos) (dApp da db) := by
  refine ⟨PS.weak (ps_expr (pe_bm PySem.F.plainAttrs_list PySem.F.slot_list_append PySem.F.type_list_append mt_append ho.pe (pa_cons ha.pe pa_nil hs) hbase hfew hline hs hplain) hsw) fun D σ H h => ?_⟩
  obtain ⟨F, e, O, k, st, er, h, o⟩ := h
  refine ⟨F, e, O, _, st, er, h, fun d O1 F1 H1 v h1 g1 r1 => ?_⟩
  try dsimp only at h1
  split at h1
  · split at h1
    · rename_i e0
      cases r1
      obtain ⟨xs, q, rr⟩ := g1.stt.rel e0
      refine ⟨.inl ⟨rfl, _, .of q⟩, F1, e, O1, _, g1.stt, er.mono g1.same, h1, fun d2 O2 F2 H2 v2 h2 g2 r2 => ?_⟩
      try dsimp only at h2
      split at h2
      · rename_i e1
        obtain ⟨ys, q2, rr2⟩ := g2.stt.rel e1
        have z := g2.stt.put (xs := ys ++ [v2]) e1 (rr2.append (.cons r2 .nil))
        have g := g1.trans (g2.trans z)
        exact ⟨_, ys, v2, rfl, rfl, q2, by rw [rr2.length]; exact h2.1, o.nx _ _ _ _ _ h2.2 g (er.mono g.same)⟩
      · exact h2.elim
    · exact h1.elim
  · exact h1.elim
/-- x op= e -/
def dAug (i : Nat) (rd : R2D) (te : DE) : DS := fun k e O => match e[i]? with
  | some (some x) => te e O fun y O1 => rd x y O1 fun z O2 => k.nx (e.set i (some z)) O2
  | _ => False
theorem psd_aug {i : Nat} {x : Str} {op : Operator} {ti : TIp} {rd : R2D} {pos' : Pos} (hN : X.N.Nodup) (hi : X.N[i]? = some x) (hx : Loc X.env.scope x) (ha : PD X a da) (ho : PIp X op ti) (hr : OpD X.K ti rd)
    (hf : X.fn x = true ∨ X.env.scope.names.lookup x = some .local := by first | exact .inl rfl | exact .inr rfl | assumption) : PSD X (.AugAssign (.Name x pos') op a pos) (dAug i rd da) := by
  refine ⟨PS.weak (ps_aug hN hi hx ha.pe ho hf) fun D σ H h => ?_⟩
  obtain ⟨F, e, O, k, st, er, h, o⟩ := h
  unfold dAug at h
  split at h
  · rename_i q
    obtain ⟨v, hv, r⟩ := er.get q
    exact ⟨v, hv, F, e, O, _, st, er, h, fun d O1 F1 H1 w h1 g1 r1 => hr v w _ d F1 O1 H1 _ _ g1.stt (r.mono g1.same) r1 h1 fun d2 O2 F2 H2 w2 h2 g2 r2 => o.nx _ _ _ _ _ h2 (g1.trans g2) ((er.mono (g1.same.trans g2.same)).set r2 i)⟩
  · exact h.elim
/-- for -/
def dLoop (g : DG) (body : DS) (k : DEnds) : List D → DV → OH → Prop
  | [], e, O => k.nx e O
  | d :: ds, e, O => g d e O fun e1 => body { nx := dLoop g body k ds, rt := k.rt, bk := k.nx, ct := dLoop g body k ds } e1 O
def dFor (di : DI) (g : DG) (body : DS) : DS := fun k e O => di e O fun items O1 => dLoop g body k items e O1
theorem psd_for {iter tg : Expr} {body : List Stmt} {di : DI} {gt : TG} {g : DG} {is : List Nat} {tb : DS} (hp : PassesOwn (model X.prog X.w) X.A X.env X.xe) (hc : X.calm = true) (hi : PID X tg iter di) (hg : PGD X tg gt g is) (hb : PBD X body tb)
    (hs : ∀ x, foldedSetIterable iter X.env x = pure x := by intro _; rfl) : PSD X (.For tg iter body [] pos) (dFor di g tb) := by
  obtain ⟨wi, p, q⟩ := hi.pi
  refine ⟨PS.weak (ps_for hp hc p hg.pg hb.pb hs) fun D σ H h => ?_⟩
  obtain ⟨F, e, O, k, st, er, h, o⟩ := h
  refine q σ H _ F e O _ st er h fun items O1 F1 H1 J h1 g1 it => ?_
  obtain ⟨G, Y, w, hG, hY⟩ := it.ok
  refine for_it w (fun i σ2 H2 => ∃ F2 e2 O2, Go X.K F1 O1 H1 F2 O2 H2 ∧ ERep X.K F2 σ2 e2 ∧ dLoop g tb k (items.drop i) e2 O2) ⟨F1, e, O1, g1.stt.go, er.mono g1.same, h1⟩ ?_ ?_ ?_
  · rintro i σ2 H2 _ ⟨F2, e2, O2, g2, _⟩
    exact hG H2 (g2.same.trans g2.stt.same)
  · rintro i x σ2 H2 H3 hin ⟨F2, e2, O2, g2, er2, h2⟩ y
    obtain ⟨d, F3, hd, g3, rd⟩ := hY i H2 x H3 F2 O2 hin g2.same g2.stt y
    have hdr : items.drop i = d :: items.drop (i + 1) := by
      rw [List.drop_eq_getElem_cons hin]
      congr 1
      rw [List.getElem?_eq_getElem hin] at hd
      exact Option.some.inj hd
    rw [hdr] at h2
    unfold dLoop at h2
    refine hg.ok x d F3 e2 O2 σ2 H3 _ _ g3.stt (er2.mono g3.same) rd h2 fun e4 σ4 h4 er4 _ => ⟨F3, e4, O2, _, g3.stt, er4, h4, ?_⟩
    have gg := g1.trans (g2.trans g3)
    have nx : OutsS X.K F3 O2 H3 (dLoop g tb k (items.drop (i + 1))) (fun σ2 H2 => ∃ F2 e2 O2, Go X.K F1 O1 H1 F2 O2 H2 ∧ ERep X.K F2 σ2 e2 ∧ dLoop g tb k (items.drop (i + 1)) e2 O2) :=
      fun e5 O5 F5 H5 σ5 h5 g5 er5 => ⟨F5, e5, O5, g2.trans (g3.trans g5), er5, h5⟩
    exact ⟨nx, o.rt.after gg, o.nx.after gg, nx⟩
  · rintro σ2 H2 ⟨F2, e2, O2, g2, er2, h2⟩
    rw [List.drop_length] at h2
    exact o.nx _ _ _ _ _ h2 (g1.trans g2) er2
/-- while -/
def dWhile (c : DT) (body : DS) : DS := fun k e O => ∃ W : Nat → DV → OH → Prop, (∃ m, W m e O) ∧ ∀ m e O, W m e O → c e O fun b O1 => match b with
  | true => body { nx := fun e1 O1 => ∃ m', m' < m ∧ W m' e1 O1, rt := k.rt, bk := k.nx, ct := fun e1 O1 => ∃ m', m' < m ∧ W m' e1 O1 } e O1
  | false => k.nx e O1
theorem psd_while {body : List Stmt} {tb : DS} (hp : PassesOwn (model X.prog X.w) X.A X.env X.xe) (hc : PTD X c dt) (hb : PBD X body tb) : PSD X (.While c body [] pos) (dWhile dt tb) := by
  refine ⟨PS.weak (ps_while hp hc.pt hb.pb) fun D σ H h => ?_⟩
  obtain ⟨F, e, O, k, st, er, ⟨W, ⟨m0, w0⟩, turn⟩, o⟩ := h
  refine ⟨fun m σ2 H2 => ∃ F2 e2 O2, Go X.K F O H F2 O2 H2 ∧ ERep X.K F2 σ2 e2 ∧ W m e2 O2, ⟨m0, F, e, O, st.go, er, w0⟩, ?_⟩
  rintro m σ2 H2 ⟨F2, e2, O2, g2, er2, w2⟩
  refine ⟨F2, e2, O2, _, g2.stt, er2, turn m e2 O2 w2, fun b O3 F3 H3 h3 g3 => ?_⟩
  cases b with
  | true =>
    rw [if_pos rfl]
    refine ⟨fun σ' H' => ∃ m', m' < m ∧ ∃ F2 e2 O2, Go X.K F O H F2 O2 H' ∧ ERep X.K F2 σ' e2 ∧ W m' e2 O2, fun _ _ z => z, F3, e2, O3, _, g3.stt, er2.mono g3.same, h3, ?_⟩
    have nx : OutsS X.K F3 O3 H3 (fun e1 O1 => ∃ m', m' < m ∧ W m' e1 O1) (fun σ' H' => ∃ m', m' < m ∧ ∃ F2 e2 O2, Go X.K F O H F2 O2 H' ∧ ERep X.K F2 σ' e2 ∧ W m' e2 O2) :=
      fun e5 O5 F5 H5 σ5 ⟨m', hm, h5⟩ g5 er5 => ⟨m', hm, F5, e5, O5, g2.trans (g3.trans g5), er5, h5⟩
    exact ⟨nx, o.rt.after (g2.trans g3), o.nx.after (g2.trans g3), nx⟩
  | false =>
    rw [if_neg (by decide)]
    exact o.nx _ _ _ _ _ h3 (g2.trans g3) (er2.mono g3.same)
end
/-! ### name = [.. for ..], a name that is no cell -/
section
variable {X : Cx}
theorem psd_setLc {i : Nat} {y : Str} {py : Pos} {elt tg iter : Expr} {ifs : List Expr} {scope : Scope} {own : List (Str × Nat)} {pos spos : Pos} {di : DI} {gt : TG} {g : DG} {tt : DT} {te : DE} {js : List Nat} (hc : X.calm = true) (hN : X.N.Nodup) (hy : X.N[i]? = some y) (hyl : X.env.scope.names.lookup y = some .local)
    (hsw : swapsWith (.ListComp elt [⟨tg, iter, ifs, 0⟩] scope pos) (some (.Name y py)) spos.line X.env = pure true) (hi : PID X tg iter di) (ok : BlkOk X.N X.env.scope scope own)
    (hjs : ∀ i ∈ js, i ∈ own.map (·.2)) (hg : ∀ (s : Shared) (H : Hp) (C : Addr) (cl : List (Str × Addr)) (fp : List Addr), PGD (X.blk s H scope (compEnvC scope cl C X.env) fp) tg gt g js)
    (ht : ∀ (s : Shared) (H : Hp) (C : Addr) (cl : List (Str × Addr)) (fp : List Addr), PTsD (X.blk s H scope (compEnvC scope cl C X.env) fp) ifs tt)
    (he : ∀ (s : Shared) (H : Hp) (C : Addr) (cl : List (Str × Addr)) (fp : List Addr), PD (X.blk s H scope (compEnvC scope cl C X.env) fp) elt te) (hs : ∀ x, foldedSetIterable iter X.env x = pure x := by intro _; rfl) :
    PSD X (.Assign [.Name y py] (.ListComp elt [⟨tg, iter, ifs, 0⟩] scope pos) spos) (dSet i (dComp di g tt te (own.map (·.2)))) := by
  obtain ⟨wi, p, q⟩ := hi.pi
  refine ⟨⟨fun pins s σ H D I h => (ps_setLc (tt := upT X.K tt) (te := upE X.K te) hc hN hy hyl hsw p ok (fun s H C cl fp => (hg s H C cl fp).pg) (fun s H C cl fp => (ht s H C cl fp).pts) (fun s H C cl fp => (he s H C cl fp).pe) hs).run pins s σ H D I ?_⟩⟩
  obtain ⟨F, e, O, k, st, er, h, o⟩ := h
  exact up_lc hjs q (hg s H 0 [] []).ok ⟨F, e, O, _, st, er, h, fun d O1 F1 H1 v h1 g1 r1 => o.nx _ _ _ _ _ h1 g1 ((er.mono g1.same).set r1 i)⟩
end
/-! ### defs -/
section
variable {P : Program} {w : World} {K : PySem.W.Frag} {mg : Str → Option Value} {base : Heap}
def startD (N : List Str) (ds : List D) : DV := ds.map some ++ List.replicate (N.length - ds.length) none
theorem erep_nones {F : Hp} : ∀ n, ERep K F (List.replicate n none) (List.replicate n none)
  | 0 => .nil
  | n + 1 => .none (erep_nones n)
theorem erep_start {F : Hp} {vs : List V} {ds : List D} (r : Reps K F vs ds) (N : List Str) : ERep K F (L2.start N vs) (startD N ds) := by
  unfold L2.start startD
  rw [r.length]
  generalize N.length - ds.length = n
  induction vs generalizing ds with
  | nil => cases r; exact erep_nones n
  | cons v vs ih => cases r with
    | cons r1 r2 => exact .some r1 (ih r2)
/-- a def's body keeps its promise, on trees -/
theorem okD {x qual : Str} {st : Stmt} {f : Addr} {fd : FuncData} {N ps : List Str} {k : Nat} {sp : DSp} (F : Fun K x qual st f fd) (S : FnScope N ps (defScope st)) (len : ∀ ds O k, sp ds O k → ds.length = ps.length)
    (hbody : ∀ (cdv : Value) (A : Around) (outer : List Env) (s : Shared) (H : Hp) (E : XK), Room k (A.deeper (envOfC qual (defScope st) s.heap.objs.size f cdv)) →
      ∃ t : DS, PBD (cxOf CX0 P w K mg base N qual (defScope st) f cdv A outer s H E).nox (defBody st) t ∧ ∀ ds O (kk : D → OH → Prop), sp ds O kk → t { nx := fun _ O' => kk .non O', rt := kk } (startD N ds) O) :
    FnOk P w K mg base CX0 (k + 1) f fd ps (upSp K sp) := by
  refine F.ok S (fun vs H Q E h => ?_) fun cdv A outer s H vs Q E hr h => ?_
  · obtain ⟨F, ds, O, k, st, r, h, o⟩ := h
    rw [r.length]
    exact len _ _ _ h
  · obtain ⟨t, p, q⟩ := hbody cdv A outer s H E hr
    obtain ⟨F, ds, O, kk, st, r, h, o⟩ := h
    exact ⟨_, p.pb, F, _, O, _, st, erep_start r N, q ds O kk h, fun e' O' F' H' σ' h' g' _ => o _ _ _ _ _ h' g' .non, o, fun _ _ _ _ _ z => z.elim, fun _ _ _ _ _ z => z.elim⟩
end
end SC
namespace SC
open PySem PySem.Spec PyProof.Rows L2
/-! ### more operations -/
section
variable {X : Cx} {a b c : Expr} {pos : Pos} {da db dc : DE}
/-- a + b: ints, texts, tuples, lists -/
def rAddA (K : PySem.W.Frag) : R2 := fun x y H Q => (∃ i j, x = .int i ∧ y = .int j ∧ Q (.int (i + j)) H) ∨ (rCatA K x y H Q ∨ rCat x y H Q)
def dAddA : R2D := fun a b O k => match a, b with
  | .int i, .int j => k (.int (i + j)) O
  | .tup xs, .tup ys => xs.length + ys.length ≤ sizeLine ∧ k (.tup (xs ++ ys)) O
  | .lst xs, .lst ys => xs.length + ys.length ≤ sizeLine ∧ k (.lst (xs ++ ys)) O
  | _, _ => False
theorem od_add {K : PySem.W.Frag} : OpD K (rAddA K) dAddA := by
  intro x y a b F O H k Q st ra rb h o
  unfold dAddA at h
  split at h
  · cases ra; cases rb
    exact .inl ⟨_, _, rfl, rfl, o _ _ _ _ _ h st.go (.int _)⟩
  · cases ra with
    | tup q rr => cases rb with
      | tup q2 rr2 =>
        refine .inr (.inl ⟨_, _, _, _, rfl, rfl, Same.seqT st.same q, Same.seqT st.same q2, by rw [rr.length, rr2.length]; exact h.1, fun z => ?_, fun _ z => ?_, fun _ _ p n => ?_⟩)
        · subst z
          cases rr
          exact o _ _ _ _ _ h.2 st.go (.tup q2 rr2)
        · subst z
          cases rr2
          exact o _ _ _ _ _ h.2 st.go (.tup q (by rw [List.append_nil]; exact rr))
        · exact o _ _ _ _ _ h.2 (st.made n) (.tup (.of upd_same) ((rr.append rr2).mono (same_upd (free_F st n))))
  · cases ra with
    | lst q rr => cases rb with
      | lst q2 rr2 => exact .inr (.inr ⟨_, _, _, _, rfl, rfl, st.same _ _ q, st.same _ _ q2, by rw [rr.length, rr2.length]; exact h.1, fun p n => o _ _ _ _ _ h.2 (st.made n) (.lst upd_same ((rr.append rr2).mono (same_upd (free_F st n))))⟩)
  · exact h.elim
theorem pd_addA (ha : PD X a da) (hb : PD X b db) : PD X (.BinOp a .Add b pos) (dOp dAddA da db) := pd_op (OpR.or op_add (OpR.or op_catA op_cat)) od_add ha hb
/-- in, of flat items -/
def flatF : D → Bool
  | .non => true | .bl _ => true | .int _ => true | .str _ => true
  | _ => false
noncomputable def eqF : D → D → Bool
  | .non, .non => true
  | .bl a, .bl b => a == b
  | .bl a, .int b => (if a then 1 else 0) == b
  | .int a, .bl b => a == (if b then 1 else 0)
  | .int a, .int b => a == b
  | .str a, .str b => strEq a b
  | _, _ => false
theorem flatF_V {K : PySem.W.Frag} {F : Hp} {x : V} {d : D} (r : Rep K F x d) (h : flatF d = true) : flatV x = true := by cases r <;> first | rfl | cases h
theorem eqF_V {K : PySem.W.Frag} {F : Hp} {x y : V} {c d : D} (r : Rep K F x c) (s : Rep K F y d) (hc : flatF c = true) (hd : flatF d = true) : eqV x y = eqF c d := by
  cases r <;> first | (cases hc; done) | (cases s <;> first | rfl | (cases hd; done) | (show (_ == _) = strEq _ _; rw [strEq_eq, Bool.beq_eq_decide_eq]))
theorem flatF_all {K : PySem.W.Frag} {F : Hp} : ∀ {vs : List V} {ds : List D}, Reps K F vs ds → ds.all flatF = true → vs.all flatV = true
  | _, _, .nil, _ => rfl
  | _, _, .cons r rr, h => by
    simp only [List.all_cons, Bool.and_eq_true] at h ⊢
    exact ⟨flatF_V r h.1, flatF_all rr h.2⟩
theorem inF_V {K : PySem.W.Frag} {F : Hp} {x : V} {d : D} (r : Rep K F x d) (hd : flatF d = true) : ∀ {vs : List V} {ds : List D}, Reps K F vs ds → ds.all flatF = true → inV x vs = ds.any fun y => eqF y d
  | _, _, .nil, _ => rfl
  | _, _, .cons s rr, h => by
    simp only [List.all_cons, Bool.and_eq_true] at h
    have z := inF_V r hd rr h.2
    unfold inV at z ⊢
    rw [List.any_cons, List.any_cons, z, eqF_V s r h.1 hd]
noncomputable def dIn (neg : Bool) : R2D := fun a b O k => match b with
  | .tup xs => (flatF a = true ∧ xs.all flatF = true) ∧ k (.bl (if neg then !(xs.any fun y => eqF y a) else xs.any fun y => eqF y a)) O
  | .lst xs => (flatF a = true ∧ xs.all flatF = true) ∧ k (.bl (if neg then !(xs.any fun y => eqF y a) else xs.any fun y => eqF y a)) O
  | _ => False
theorem od_in {K : PySem.W.Frag} {neg : Bool} : OpD K (rIn K neg) (dIn neg) := by
  intro x y a b F O H k Q st ra rb h o
  unfold dIn at h
  split at h
  · cases rb with
    | tup q rr => exact ⟨_, _, rfl, .inr (Same.seqT st.same q), flatF_V ra h.1.1, flatF_all rr h.1.2, by rw [inF_V ra h.1.1 rr h.1.2]; exact o _ _ _ _ _ h.2 st.go (.bl _)⟩
  · cases rb with
    | lst q rr => exact ⟨_, _, rfl, .inl (.of (st.same _ _ q)), flatF_V ra h.1.1, flatF_all rr h.1.2, by rw [inF_V ra h.1.1 rr h.1.2]; exact o _ _ _ _ _ h.2 st.go (.bl _)⟩
  · exact h.elim
theorem pd_in (ha : PD X a da) (hb : PD X b db) (hm : behindInMarks .In b = false := by rfl) : PD X (.Compare a [.In] [b] pos) (dOp (dIn false) da db) := pd_cmp op_in_seq od_in ha hb hm
theorem ptd_in (ha : PD X a da) (hb : PD X b db) (hm : behindInMarks .In b = false := by rfl) : PTD X (.Compare a [.In] [b] pos) (dB (dOp (dIn false) da db)) := ptd_cmp op_in_seq od_in ha hb hm
/-- a written tuple of texts at the top -/
theorem rep_txts {K : PySem.W.Frag} {a : Addr} {od : Option Addr} {xs : List Str} {its : List Value} {n : Nat} {sl : Array (Option Value)} (l : K.lookup a = some ⟨.type "tuple", od, .seq its.toArray n, sl⟩) (r : Vals (xs.map V.str) its) (hz : its.length ≤ 1000) (F : Hp) :
    Rep K F (.ref a) (.tup (xs.map D.str)) := by
  refine .tup (xs := xs.map V.str) (.inr ⟨_, _, _, l, rfl, rfl, ?_, ?_⟩) ?_
  · simpa using Nat.le_of_lt (small1000 hz)
  · simpa using r
  · clear r l
    induction xs with
    | nil => exact .nil
    | cons x xs ih => exact .cons (.str x) ih
end
def dPar3 (i j l : Nat) (t : DA) : DS := fun k e O => t e O fun xs O1 => match xs with
  | [u, v, w] => k.nx (((e.set i (some u)).set j (some v)).set l (some w)) O1
  | _ => False
theorem psd_par3 {X : Cx} {i j l : Nat} {x y z : Str} {a b c : Expr} {ta : DA} {px py pz pt pos : Pos} {kt k2 pt2} (hc : X.calm = true) (hN : X.N.Nodup) (hi : X.N[i]? = some x) (hj : X.N[j]? = some y) (hl : X.N[l]? = some z) (hij : i ≠ j) (hil : i ≠ l) (hjl : j ≠ l)
    (hx : X.env.scope.names.lookup x = some .local) (hy : X.env.scope.names.lookup y = some .local) (hz : X.env.scope.names.lookup z = some .local) (ha : PAD X [a, b, c] ta)
    (hw : swappedStores [.Tuple [.Name x px, .Name y py, .Name z pz] kt pt] (.Tuple [a, b, c] k2 pt2) X.env = pure (some [x, y, z]))
    (hs : swapsWithSole [.Tuple [.Name x px, .Name y py, .Name z pz] kt pt] (.Tuple [a, b, c] k2 pt2) pos.line X.env = pure false := by rfl) :
    PSD X (.Assign [.Tuple [.Name x px, .Name y py, .Name z pz] kt pt] (.Tuple [a, b, c] k2 pt2) pos) (dPar3 i j l ta) := by
  refine ⟨PS.weak (ps_par3 hc hN hi hj hl hij hil hjl hx hy hz ha.pa hw hs) fun D σ H h => ?_⟩
  obtain ⟨F, e, O, k, st, er, h, o⟩ := h
  refine ⟨F, e, O, _, st, er, h, fun ds O1 F1 H1 vs h1 g1 r1 => ?_⟩
  try dsimp only at h1
  split at h1
  · cases r1 with
    | cons r1 r2 => cases r2 with
      | cons r2 r3 => cases r3 with
        | cons r3 r4 =>
          cases r4
          exact ⟨_, _, _, rfl, o.nx _ _ _ _ _ h1 g1 ((((er.mono g1.same).set r1 i).set r2 j).set r3 l)⟩
  · exact h1.elim
/-! ### subscripts by small numbers, for simp -/
section
variable {α : Type} {x y z w v : α} {xs : List α}
theorem atI_0 : atI (x :: xs) 0 = some x := atI_nat (j := 0) rfl
theorem atI_1 : atI (x :: y :: xs) 1 = some y := atI_nat (j := 1) rfl
theorem atI_2 : atI (x :: y :: z :: xs) 2 = some z := atI_nat (j := 2) rfl
theorem atI_3 : atI (x :: y :: z :: w :: xs) 3 = some w := atI_nat (j := 3) rfl
theorem atI_4 : atI (x :: y :: z :: w :: v :: xs) 4 = some v := atI_nat (j := 4) rfl
end
end SC
namespace SC
open PySem PySem.Spec PyProof.Rows L2
/-! ### zip of three tuples -/
def Itz3 (K : PySem.W.Frag) (a b c : Addr) : It :=
  ⟨fun i H => ∃ (xs ys zs : List V) (x y z : V), SqT K H a xs ∧ SqT K H b ys ∧ SqT K H c zs ∧ xs[i]? = some x ∧ ys[i]? = some y ∧ zs[i]? = some z,
    fun i H v H' => ∃ T x y z, v = .ref T ∧ H T = none ∧ H' = upd H T (.tup [x, y, z]) ∧ (∀ xs, SqT K H a xs → xs[i]? = some x) ∧ (∀ ys, SqT K H b ys → ys[i]? = some y) ∧ ∀ zs, SqT K H c zs → zs[i]? = some z,
    fun i H => ∃ xs ys zs : List V, SqT K H a xs ∧ SqT K H b ys ∧ SqT K H c zs ∧ xs.length = ys.length ∧ xs.length = zs.length ∧ i = xs.length⟩
structure Sep3 (z TI TO i1 i2 i3 a b c : Addr) : Prop where
  s : ZipSep3 z TI TO i1 i2 i3 [i1, a] [i2, b] [i3, c]
  a1 : a ≠ i1
  b2 : b ≠ i2
  c3 : c ≠ i3
  i1z : i1 ≠ z
  i2z : i2 ≠ z
  i3z : i3 ≠ z
theorem tupIter_at {h h' : Heap} {it l : Addr} {i : Nat} (x : h.IsTupleIter it l i) (k : ∀ o, h.get? it = some o → h'.get? it = some o) : h'.IsTupleIter it l i := x.at k
theorem turn_zip3 {P : Program} {w : World} {K : PySem.W.Frag} {elts : List Expr} {kk : Nat} {tpos : Pos} {a b c z TI TO i1 i2 i3 : Addr} (D : Sep3 z TI TO i1 i2 i3 a b c) :
    Turn P w K (.Tuple elts kk tpos) (Itz3 K a b c) [z, TI, TO, i1, i2, i3] z (fun i h => IsZip h z TI TO .none ∧ IsTupOf3 h TI (.ref i1) (.ref i2) (.ref i3) ∧ (∃ x y u, IsTupOf3 h TO x y u) ∧ h.IsTupleIter i1 a i ∧ h.IsTupleIter i2 b i ∧ h.IsTupleIter i3 c i) where
  mem := by simp
  obj := fun i h st e he => by
    obtain ⟨hz, hTI, ⟨x, y, u, hTO⟩, ⟨o1, e1, _, d1⟩, ⟨o2, e2, _, d2⟩, ⟨o3, e3, _, d3⟩⟩ := st
    have e' : e = z ∨ e = TI ∨ e = TO ∨ e = i1 ∨ e = i2 ∨ e = i3 := by simpa using he
    rcases e' with q | q | q | q | q | q
    · rw [q]; exact ⟨_, hz, fun v q => nomatch q⟩
    · rw [q]; exact ⟨_, hTI, fun v q => nomatch q⟩
    · rw [q]; exact ⟨_, hTO, fun v q => nomatch q⟩
    · rw [q]; exact ⟨o1, e1, fun v q => by rw [d1] at q; cases q⟩
    · rw [q]; exact ⟨o2, e2, fun v q => by rw [d2] at q; cases q⟩
    · rw [q]; exact ⟨o3, e3, fun v q => by rw [d3] at q; cases q⟩
  keep := fun i h h' st k => by
    obtain ⟨hz, hTI, ⟨x, y, u, hTO⟩, h1, h2, h3⟩ := st
    exact ⟨k z (by simp) _ hz, k TI (by simp) _ hTI, ⟨x, y, u, k TO (by simp) _ hTO⟩, h1.at fun o q => k i1 (by simp) o q, h2.at fun o q => k i2 (by simp) o q, h3.at fun o q => k i3 (by simp) o q⟩
  item := by
    intro X hP hw hK hc i pins s σ H E I hf st hg
    subst hP hw hK
    obtain ⟨hz, hTI, ⟨x0, y0, u0, hTO⟩, h1, h2, h3⟩ := st
    obtain ⟨xs, ys, zs, x, y, u, hqx, hqy, hqz, hx, hy, hu⟩ := hg
    obtain ⟨its1, rv1, p1, _⟩ := I.tuple hqx
    obtain ⟨its2, rv2, p2, _⟩ := I.tuple hqy
    obtain ⟨its3, rv3, p3, _⟩ := I.tuple hqz
    obtain ⟨v1, hv1, r1⟩ := rv1.get hx
    obtain ⟨v2, hv2, r2⟩ := rv2.get hy
    obtain ⟨v3, hv3, r3⟩ := rv3.get hu
    have hzl : z < s.heap.objs.size := Heap.lt_size hz
    have lt {its : List Value} {v : Value} (e : its[i]? = some v) : i < its.toArray.size := by rw [List.size_toArray]; exact (List.getElem?_eq_some_iff.mp e).1
    refine wpAny_pyNext_zipD3_item D.s (Draws.tuple (prog := X.prog) (w := X.w) (A := X.A.in1) (show X.A.in1.handled = none from I.ok.hd hc) i1 a D.a1 its1.toArray) (Draws.tuple (prog := X.prog) (w := X.w) (A := X.A.in1) (show X.A.in1.handled = none from I.ok.hd hc) i2 b D.b2 its2.toArray) (Draws.tuple (prog := X.prog) (w := X.w) (A := X.A.in1) (show X.A.in1.handled = none from I.ok.hd hc) i3 c D.c3 its3.toArray) hz hTI hTO
      ⟨h1, p1⟩ ⟨h2, p2⟩ ⟨h3, p3⟩ (lt hv1) (lt hv2) (lt hv3) fun w1 w2 w3 h' tk q1 q2 q3 z' TO' t1 t2 t3 hT hsz hk => ?_
    have e1 : w1 = v1 := Option.some.inj (q1.symm.trans (by simpa using hv1))
    have e2 : w2 = v2 := Option.some.inj (q2.symm.trans (by simpa using hv2))
    have e3 : w3 = v3 := Option.some.inj (q3.symm.trans (by simpa using hv3))
    subst e1 e2 e3
    refine ⟨_, rfl, wpAny_letOwnedTupleGo_zip (s := { s with heap := h', toks := tk }) z' fun h'' z'' sb => ?_⟩
    have hT2 : h''.get? s.heap.objs.size = some { cls := .type "tuple", data := .seq #[w1, w2, w3] } := (sb.2 _ (Nat.ne_of_gt hzl)).trans hT
    have new : ObjOk X.prog X.w (upd H s.heap.objs.size (.tup [x, y, u])) h'' s.heap.objs.size (.tup [x, y, u]) :=
      ⟨by show 3 ≤ sizeLine; decide, [w1, w2, w3], .cons r1 (.cons r2 (.cons r3 .nil)), ⟨_, hT2, rfl, _, rfl⟩⟩
    have I1 : Inv X pins σ (upd H s.heap.objs.size (.tup [x, y, u])) { s with heap := h'', toks := tk } :=
      I.turnedNew (t' := tk) (ch := [z, TI, TO, i1, i2, i3]) (fun c o hb q => (sb.2 c (fun q' => hb (by simp [q']))).trans (hk c o (fun q' => hb (by simp [q'])) (fun q' => hb (by simp [q'])) (fun q' => hb (by simp [q'])) (fun q' => hb (by simp [q'])) (fun q' => hb (by simp [q'])) q)) hf (Nat.le_refl _) new
    refine ⟨.ref s.heap.objs.size, _, I1, rfl, ⟨_, x, y, u, rfl, I.hok.fresh (Nat.le_refl _), rfl, fun l hl => by rw [I.tuple_inj hl hqx]; exact hx, fun l hl => by rw [I.tuple_inj hl hqy]; exact hy, fun l hl => by rw [I.tuple_inj hl hqz]; exact hu⟩, ⟨z'', ?_, ⟨w1, w2, w3, ?_⟩, ?_, ?_, ?_⟩, fun e hem => ?_⟩
    · exact (sb.2 _ D.s.TIz).trans (hk _ _ D.s.TIz D.s.TITO D.s.TIi1 D.s.TIi2 D.s.TIi3 hTI)
    · exact (sb.2 _ D.s.TOz).trans TO'
    · exact t1.1.at fun o q => (sb.2 _ D.i1z).trans q
    · exact t2.1.at fun o q => (sb.2 _ D.i2z).trans q
    · exact t3.1.at fun o q => (sb.2 _ D.i3z).trans q
    · have hlt : e < s.heap.objs.size := by
        have e' : e = z ∨ e = TI ∨ e = TO ∨ e = i1 ∨ e = i2 ∨ e = i3 := by simpa using hem
        rcases e' with q | q | q | q | q | q
        · rw [q]; exact hzl
        · rw [q]; exact Heap.lt_size hTI
        · rw [q]; exact Heap.lt_size hTO
        · rw [q]; obtain ⟨_, e1, _⟩ := h1; exact Heap.lt_size e1
        · rw [q]; obtain ⟨_, e1, _⟩ := h2; exact Heap.lt_size e1
        · rw [q]; obtain ⟨_, e1, _⟩ := h3; exact Heap.lt_size e1
      rw [upd_ne (Nat.ne_of_lt hlt)]
      exact (hf e hem).1
  done := by
    intro X hP hw hK hc i pins s σ H E I hf st hg
    subst hP hw hK
    obtain ⟨hz, hTI, ⟨x0, y0, u0, hTO⟩, h1, h2, h3⟩ := st
    obtain ⟨xs, ys, zs, hqx, hqy, hqz, l1, l2, rfl⟩ := hg
    obtain ⟨its1, rv1, p1, _⟩ := I.tuple hqx
    obtain ⟨its2, rv2, p2, _⟩ := I.tuple hqy
    obtain ⟨its3, rv3, p3, _⟩ := I.tuple hqz
    have m1 := rv1.length
    have m2 := rv2.length
    have m3 := rv3.length
    refine wpAny_pyNext_zipD3_end D.s (Draws.tuple (prog := X.prog) (w := X.w) (A := X.A.in1) (show X.A.in1.handled = none from I.ok.hd hc) i1 a D.a1 its1.toArray) (Draws.tuple (prog := X.prog) (w := X.w) (A := X.A.in1) (show X.A.in1.handled = none from I.ok.hd hc) i2 b D.b2 its2.toArray) (Draws.tuple (prog := X.prog) (w := X.w) (A := X.A.in1) (show X.A.in1.handled = none from I.ok.hd hc) i3 c D.c3 its3.toArray) hz hTI hTO
      ⟨h1, p1⟩ ⟨h2, p2⟩ ⟨h3, p3⟩ (by rw [List.size_toArray]; omega) (by rw [List.size_toArray]; omega) (by rw [List.size_toArray]; omega) (.inl (by rw [List.size_toArray]; omega)) fun h' tk hk => ?_
    exact ⟨rfl, I.turnedL (t' := tk) (ch := [z, TI, TO, i1, i2, i3]) (fun c o hb q =>
      hk c o (fun q' => hb (by simp [q'])) (fun q' => hb (by simp [q'])) (fun q' => hb (by simp [q'])) (fun q' => hb (by simp [q'])) (fun q' => hb (by simp [q'])) q) hf⟩
  self := fun A i s Q E st h => wpAny_pyIter_zip st.1 h
def iZip3 (K : PySem.W.Frag) (ta : TA) : TI := fun σ H R => ta σ H fun vs H1 => ∃ a b c xs ys zs, vs = [.ref a, .ref b, .ref c] ∧ SqT K H1 a xs ∧ SqT K H1 b ys ∧ SqT K H1 c zs ∧ R (Itz3 K a b c) H1
theorem pi_zip3 {X : Cx} {e e2 e3 : Expr} {ta : TA} {p pos tpos : Pos} {elts : List Expr} {kk : Nat} (hg : Gl X "zip") (hm : X.mg "zip" = none) (ha : PA X [e, e2, e3] ta)
    (hs : starEach [e, e2, e3] X.env = (false, eval e X.env) :: starEach [e2, e3] X.env := by rfl) (hpl : (backTo pos (starEach [e2, e3] X.env)).any (·.1) = false := by rfl) :
    PI X (.Tuple elts kk tpos) (.Call (.Name "zip" p) [e, e2, e3] [] pos) (iZip3 X.K ta) := by
  refine ⟨fun pins s σ H R I h => ?_⟩
  refine Call_ (ld_blt I hg hm PyProof.Rows.boot_zip (PyProof.Rows.callWith_type1 (thn (ha.run pos pins s σ H _ I h) fun us s1 ⟨vs, H1, I1, r1, q1⟩ => ?_) hs hpl))
  obtain ⟨a, b, c, xs, ys, zs, ex, hqx, hqy, hqz, q⟩ := q1
  subst ex
  cases r1 with
  | cons r rr => cases rr with
    | cons r' rr => cases rr with
      | cons r'' rr =>
        cases rr; cases r; cases r'; cases r''
        obtain ⟨its1, rv1, p1, _⟩ := I1.tuple hqx
        obtain ⟨its2, rv2, p2, _⟩ := I1.tuple hqy
        obtain ⟨its3, rv3, p3, _⟩ := I1.tuple hqz
        have ha : a < s1.heap.objs.size := p1.lt
        have hb : b < s1.heap.objs.size := p2.lt
        have hc : c < s1.heap.objs.size := p3.lt
        refine zip_begins3 (begins_tuple a its1.toArray) (begins_tuple b its2.toArray) (begins_tuple c its3.toArray) p1 p2 p3 fun h' hz hTI hTO h1 h2 h3 hsz hk => wpAny_pyIter_zip hz ?_
        have I2 : Inv X pins σ H1 { s1 with heap := h' } := I1.kept (t' := s1.toks) hk
        have fresh6 : ∀ c, c ∈ [s1.heap.objs.size + 5, s1.heap.objs.size + 3, s1.heap.objs.size + 4, s1.heap.objs.size, s1.heap.objs.size + 1, s1.heap.objs.size + 2] → FpOk X pins H1 c := fun c hcm => by
          have e' : c = s1.heap.objs.size + 5 ∨ c = s1.heap.objs.size + 3 ∨ c = s1.heap.objs.size + 4 ∨ c = s1.heap.objs.size ∨ c = s1.heap.objs.size + 1 ∨ c = s1.heap.objs.size + 2 := by simpa using hcm
          have hle : s1.heap.objs.size ≤ c := by
            rcases e' with z | z | z | z | z | z <;> rw [z] <;> first | exact Nat.le_refl _ | exact Nat.le_add_right _ _
          exact I1.fpOk hle (I1.hok.fresh hle)
        have sep := zip_sep3 (N := s1.heap.objs.size) (fp1 := [a]) (fp2 := [b]) (fp3 := [c]) (fun e he => by rw [List.mem_singleton.mp he]; exact ha) (fun e he => by rw [List.mem_singleton.mp he]; exact hb) (fun e he => by rw [List.mem_singleton.mp he]; exact hc)
        exact ⟨s1.heap.objs.size + 5, [s1.heap.objs.size + 5, s1.heap.objs.size + 3, s1.heap.objs.size + 4, s1.heap.objs.size, s1.heap.objs.size + 1, s1.heap.objs.size + 2], _, _, H1, rfl, I2,
          turn_zip3 ⟨sep, Nat.ne_of_lt ha, Nat.ne_of_lt (Nat.lt_succ_of_lt hb), Nat.ne_of_lt (Nat.lt_succ_of_lt (Nat.lt_succ_of_lt hc)), show (s1.heap.objs.size : Nat) ≠ s1.heap.objs.size + 5 by omega, show (s1.heap.objs.size + 1 : Nat) ≠ s1.heap.objs.size + 5 by omega, show (s1.heap.objs.size + 2 : Nat) ≠ s1.heap.objs.size + 5 by omega⟩,
          ⟨hz, hTI, ⟨_, _, _, hTO⟩, ⟨_, h1, rfl, rfl⟩, ⟨_, h2, rfl, rfl⟩, ⟨_, h3, rfl, rfl⟩⟩, fresh6, q⟩
def trip : List D → List D → List D → List D
  | x :: xs, y :: ys, z :: zs => .tup [x, y, z] :: trip xs ys zs
  | _, _, _ => []
theorem trip_length : ∀ xs ys zs : List D, xs.length = ys.length → xs.length = zs.length → (trip xs ys zs).length = xs.length
  | [], _, _, _, _ => by simp [trip]
  | x :: xs, [], _, h, _ => by simp at h
  | x :: xs, _ :: _, [], _, h => by simp at h
  | x :: xs, y :: ys, z :: zs, h1, h2 => by simp [trip, trip_length xs ys zs (by simpa using h1) (by simpa using h2)]
theorem trip_get : ∀ (xs ys zs : List D) (i : Nat) (x y z : D), xs[i]? = some x → ys[i]? = some y → zs[i]? = some z → (trip xs ys zs)[i]? = some (.tup [x, y, z])
  | [], _, _, _, _, _, _, h, _, _ => by simp at h
  | _ :: _, [], _, _, _, _, _, _, h, _ => by simp at h
  | _ :: _, _ :: _, [], _, _, _, _, _, _, h => by simp at h
  | a :: xs, b :: ys, c :: zs, 0, x, y, z, h, h2, h3 => by simp at h h2 h3; subst h h2 h3; rfl
  | a :: xs, b :: ys, c :: zs, i + 1, x, y, z, h, h2, h3 => trip_get xs ys zs i x y z (by simpa using h) (by simpa using h2) (by simpa using h3)
def dZip3 (t u v : DE) : DI := fun e O k => t e O fun d O1 => u e O1 fun d2 O2 => v e O2 fun d3 O3 => match d, d2, d3 with
  | .tup xs, .tup ys, .tup zs => (xs.length = ys.length ∧ xs.length = zs.length) ∧ k (trip xs ys zs) O3
  | _, _, _ => False
theorem pid_zip3 {X : Cx} {a b c : Expr} {da db dc : DE} {p pos : Pos} {elts : List Expr} {kk : Nat} {tpos : Pos} (hg : Gl X "zip") (hm : X.mg "zip" = none) (ha : PD X a da) (hb : PD X b db) (hc : PD X c dc)
    (hs : starEach [a, b, c] X.env = (false, eval a X.env) :: starEach [b, c] X.env := by rfl) (hs2 : starEach [b, c] X.env = (false, eval b X.env) :: starEach [c] X.env := by rfl) (hs3 : starEach [c] X.env = [(false, eval c X.env)] := by rfl)
    (hpl : (backTo pos (starEach [b, c] X.env)).any (·.1) = false := by rfl) : PID X (.Tuple elts kk tpos) (.Call (.Name "zip" p) [a, b, c] [] pos) (dZip3 da db dc) := by
  refine ⟨_, pi_zip3 hg hm (pa_cons ha.pe (pa_cons hb.pe (pa_cons hc.pe pa_nil (by rw [hs3] <;> rfl)) hs2) hs) hs hpl, fun σ H R F e O k st er h o => ⟨F, e, O, _, st, er, h, fun d O1 F1 H1 v h1 g1 r1 => ⟨F1, e, O1, _, g1.stt, er.mono g1.same, h1, fun d2 O2 F2 H2 v2 h2 g2 r2 => ⟨F2, e, O2, _, g2.stt, er.mono (g1.same.trans g2.same), h2, fun d3 O3 F3 H3 v3 h3 g3 r3 => ?_⟩⟩⟩⟩
  try dsimp only at h3
  split at h3
  · rename_i xs ys zs
    obtain ⟨⟨l1, l2⟩, h3⟩ := h3
    have r1 := r1.mono (g2.same.trans g3.same)
    have r2 := r2.mono g3.same
    cases r1 with
    | @tup a1 us1 _ q1 rr1 => cases r2 with
      | @tup a2 us2 _ q2 rr2 => cases r3 with
        | @tup a3 us3 _ q3 rr3 =>
          refine ⟨_, _, _, _, _, _, rfl, Same.seqT g3.stt.same q1, Same.seqT g3.stt.same q2, Same.seqT g3.stt.same q3, o _ _ F3 H3 _ h3 (g1.trans (g2.trans g3)) ?_⟩
          have m1 := rr1.length
          have m2 := rr2.length
          have m3 := rr3.length
          refine ⟨fun H => SqT X.K H a1 us1 ∧ SqT X.K H a2 us2 ∧ SqT X.K H a3 us3, fun i H v H' => ∃ T x y z, v = .ref T ∧ H T = none ∧ H' = upd H T (.tup [x, y, z]) ∧ us1[i]? = some x ∧ us2[i]? = some y ∧ us3[i]? = some z, ?_, fun H s => ⟨Same.seqT s q1, Same.seqT s q2, Same.seqT s q3⟩, ?_⟩
          · rw [trip_length _ _ _ l1 l2]
            refine ⟨fun i H hi q => ?_, fun H q => ⟨us1, us2, us3, q.1, q.2.1, q.2.2, by omega, by omega, by omega⟩, fun i H x H' hi q y => ?_⟩
            · exact ⟨us1, us2, us3, us1[i]'(by omega), us2[i]'(by omega), us3[i]'(by omega), q.1, q.2.1, q.2.2, by simp [show i < us1.length by omega], by simp [show i < us2.length by omega], by simp [show i < us3.length by omega]⟩
            · obtain ⟨T, x, y, z, h1, h2, h3, h4, h5, h6⟩ := y
              exact ⟨T, x, y, z, h1, h2, h3, h4 _ q.1, h5 _ q.2.1, h6 _ q.2.2⟩
          · intro i H x H' F' O' hi s st y
            obtain ⟨T, x, y, z, e1, n, e2, y1, y2, y3⟩ := y
            subst e1 e2
            obtain ⟨c1, d1, f1⟩ := rr1.getV y1
            obtain ⟨c2, d2, f2⟩ := rr2.getV y2
            obtain ⟨c3, d3, f3⟩ := rr3.getV y3
            have sm := same_upd (o := .tup [x, y, z]) (free_F st n)
            have s2 := s.trans sm
            exact ⟨_, _, trip_get _ _ _ _ _ _ _ d1 d2 d3, st.made n, .tup (.of upd_same) (.cons (f1.mono s2) (.cons (f2.mono s2) (.cons (f3.mono s2) .nil)))⟩
  · exact h3.elim
/-! ### the law's own def -/
/-- handed a list of ints, it tells True -/
def spTop (K : PySem.W.Frag) : Sp := fun vs H Q _ => ∃ (a : Addr) (ns : List Int), vs = [.ref a] ∧ SqL K H a (ns.map V.int) ∧ ns.length ≤ 63 ∧ ∀ H', Q (.bl true) H'
def spLaw : DSp := fun ds O k => ∃ ns : List Int, ds = [.fz (ns.map D.int)] ∧ ns.length ≤ 63 ∧ ∀ O', k (.bl true) O'
theorem reps_ints {K : PySem.W.Frag} {F : Hp} : ∀ ns : List Int, Reps K F (ns.map V.int) (ns.map D.int)
  | [] => .nil
  | n :: ns => .cons (.int n) (reps_ints ns)
theorem top_imp {K : PySem.W.Frag} : ∀ vs H Q E, spTop K vs H Q E → upSp K spLaw vs H Q E := by
  intro vs H Q E h
  obtain ⟨a, ns, rfl, hS, hl, q⟩ := h
  refine ⟨H, [.fz (ns.map D.int)], fun _ => none, fun d _ => d = .bl true, ⟨Same.refl _, fun _ _ z => by cases z⟩, .cons (.fz hS (reps_ints ns)) .nil, ⟨ns, rfl, hl, fun _ => rfl⟩, fun d O' F' H' v e g r => ?_⟩
  subst e
  cases r
  exact q _
end SC
namespace SC
open PySem PySem.Spec PyProof.Rows L2
/-! ### readings, unfolded -/
theorem odel_oset {O : OH} {q : Addr} {ys : List D} (h : O q = none) : odel (oset O q ys) q = O := by
  funext b
  unfold odel oset
  by_cases e : b = q
  · rw [if_pos e, e, h]
  · rw [if_neg e, if_neg e]
theorem oset_comm {O : OH} {p q : Addr} {xs ys : List D} (h : p ≠ q) : oset (oset O p xs) q ys = oset (oset O q ys) p xs := by
  funext b
  unfold oset
  by_cases e : b = q
  · subst e; rw [if_pos rfl, if_neg h.symm, if_pos rfl]
  · by_cases e2 : b = p
    · subst e2; rw [if_neg e, if_pos rfl, if_pos rfl]
    · rw [if_neg e, if_neg e2, if_neg e2, if_neg e]
theorem own_ne {O : OH} {p q : Addr} {xs : List D} (h : O p = some xs) (n : O q = none) : q ≠ p := fun e => by rw [e, h] at n; cases n
theorem startD_eq {N : List Str} {ds : List D} {n : Nat} (h : N.length - ds.length = n) : startD N ds = ds.map some ++ List.replicate n none := by unfold startD; rw [h]
/-- tuple(x) of a list of one's own that is asked no more -/
def rTupX : R1D := fun d O k => match d with
  | .own p => match O p with
    | some xs => k (.tup xs) (odel O p)
    | none => False
  | _ => False
theorem ud_tupX {K : PySem.W.Frag} : UnD K (kTup K) rTupX := by
  intro x a F O H k Q st r h o
  unfold rTupX at h
  split at h
  · rename_i p
    cases r
    split at h
    · rename_i e
      obtain ⟨xs, q, rr⟩ := st.rel e
      refine .inl ⟨_, _, rfl, .of q, fun r n => ?_⟩
      have g := st.made (o := .tup xs) n
      have q' : (upd H r (.tup xs)) p = some (.lst xs) := by rw [upd_ne (ne_of_none q n)]; exact q
      have g2 : Go K F O H (upd F r (.tup xs)) (odel O p) (upd H r (.tup xs)) := by
        refine ⟨g.same, ⟨g.stt.same, fun a ds z => ?_⟩, fun a u h1 f1 u1 => ?_⟩
        · by_cases w : a = p
          · subst w; simp [odel] at z
          · exact g.stt.own a ds (by simpa [odel, w] using z)
        · obtain ⟨y1, y2, y3⟩ := g.frame a u h1 f1 u1
          refine ⟨y1, y2, ?_⟩
          by_cases w : a = p
          · subst w; rw [e] at u1; cases u1
          · simp [odel, w, y3]
      exact o _ _ _ _ _ h g2 (.tup (.of upd_same) (rr.mono (same_upd (free_F st n))))
    · exact h.elim
  · exact h.elim
theorem pd_tupleX {X : Cx} {a : Expr} {p pos : Pos} {da : DE} (hg : Gl X "tuple") (hm : X.mg "tuple" = none) (ha : PD X a da) (na : starEach [a] X.env = (false, eval a X.env) :: starEach [] X.env := by rfl) : PD X (.Call (.Name "tuple" p) [a] [] pos) (dUn rTupX da) :=
  ⟨PE.weak (pe_tupleOf hg hm ha.pe na) fun σ H Q h => up_un ud_tupX h⟩
/-! ### comprehensions and loops over mapped lists -/
section
variable {α : Type}
theorem dAcc_map {g : DG} {te : DE} {e : DV} {k : List D → OH → Prop} (to f : α → D) : ∀ (xs : List α) (acc : List D) (O : OH),
    (∀ x ∈ xs, ∀ (O : OH) (k' : D → OH → Prop), k' (f x) O → g (to x) e O fun e2 => te e2 O k') → k (acc ++ xs.map f) O → dAcc g dYes te e k (xs.map to) acc O
  | [], acc, O, _, h => by simpa [dAcc] using h
  | x :: xs, acc, O, hs, h => by
    show g (to x) e O fun e2 => te e2 O fun y O3 => dAcc g dYes te e k (xs.map to) (acc ++ [y]) O3
    refine hs x (by simp) O _ ?_
    exact dAcc_map to f xs (acc ++ [f x]) O (fun y hy => hs y (by simp [hy])) (by simpa using h)
theorem dAcc_filter {g : DG} {tt : DT} {te : DE} {e : DV} {k : List D → OH → Prop} (to f : α → D) (c : α → Bool) : ∀ (xs : List α) (acc : List D) (O : OH),
    (∀ x ∈ xs, ∀ (O : OH) (A : D → OH → Prop) (B : OH → Prop), (if c x = true then A (f x) O else B O) → g (to x) e O fun e2 => tt e2 O fun b O2 => match b with
      | true => te e2 O2 A
      | false => B O2) → k (acc ++ (xs.filter c).map f) O → dAcc g tt te e k (xs.map to) acc O
  | [], acc, O, _, h => by simpa [dAcc] using h
  | x :: xs, acc, O, hs, h => by
    show g (to x) e O fun e2 => tt e2 O fun b O2 => match b with
      | true => te e2 O2 fun y O3 => dAcc g tt te e k (xs.map to) (acc ++ [y]) O3
      | false => dAcc g tt te e k (xs.map to) acc O2
    refine hs x (by simp) O _ (fun O2 => dAcc g tt te e k (xs.map to) acc O2) ?_
    cases hc : c x with
    | true =>
      rw [if_pos rfl]
      refine dAcc_filter to f c xs _ O (fun y hy => hs y (by simp [hy])) ?_
      simpa [hc] using h
    | false =>
      rw [if_neg (by decide)]
      refine dAcc_filter to f c xs _ O (fun y hy => hs y (by simp [hy])) ?_
      simpa [hc] using h
/-- the items satisfy what each turn gives; the state keeps J -/
theorem dAcc_inv {g : DG} {te : DE} {e : DV} {k : List D → OH → Prop} (J : OH → Prop) (Pd : D → Prop) : ∀ (items acc : List D) (O : OH),
    (∀ d ∈ items, ∀ (O : OH) (k' : D → OH → Prop), J O → (∀ y O', Pd y → J O' → k' y O') → g d e O fun e2 => te e2 O k') → J O → (∀ ys O', (∀ y ∈ ys, Pd y) → ys.length = items.length → J O' → k (acc ++ ys) O') → dAcc g dYes te e k items acc O
  | [], acc, O, _, hJ, h => by
    show k acc O
    have := h [] O (by simp) rfl hJ
    simpa using this
  | d :: ds, acc, O, hs, hJ, h => by
    show g d e O fun e2 => te e2 O fun y O3 => dAcc g dYes te e k ds (acc ++ [y]) O3
    refine hs d (by simp) O _ hJ fun y O' py hJ' => ?_
    refine dAcc_inv J Pd ds (acc ++ [y]) O' (fun d' hd => hs d' (by simp [hd])) hJ' fun ys O'' hy hl hJ'' => ?_
    have := h (y :: ys) O'' (by intro z hz; rcases List.mem_cons.mp hz with rfl | hz; exact py; exact hy z hz) (by simp [hl]) hJ''
    simpa using this
/-- a loop, by what is kept for the rest of the items -/
theorem dLoop_ind {g : DG} {body : DS} {k : DEnds} (to : α → D) (P : List α → DV → OH → Prop)
    (hs : ∀ x xs e O, P (x :: xs) e O → ∀ nx : DV → OH → Prop, (∀ e2 O2, P xs e2 O2 → nx e2 O2) → g (to x) e O fun e1 => body { nx := nx, rt := k.rt, bk := k.nx, ct := nx } e1 O)
    (hd : ∀ e O, P [] e O → k.nx e O) : ∀ (xs : List α) (e : DV) (O : OH), P xs e O → dLoop g body k (xs.map to) e O
  | [], e, O, h => hd e O h
  | x :: xs, e, O, h => hs x xs e O h _ fun e2 O2 h2 => dLoop_ind to P hs hd xs e2 O2 h2
theorem pairsD_map {β : Type} (f : α → D) (g : β → D) : ∀ (xs : List α) (ys : List β), pairsD (xs.map f) (ys.map g) = (xs.zip ys).map fun p => .tup [f p.1, g p.2]
  | [], _ => by simp [pairsD]
  | _ :: _, [] => by simp [pairsD]
  | x :: xs, y :: ys => by simp [pairsD, pairsD_map f g xs ys]
end
theorem small_len {n : Nat} (h : n ≤ 100000) : n ≤ sizeLine := Nat.le_trans h (by decide)
theorem lt_len {n : Nat} (h : n ≤ 100000) : n < sizeLine := Nat.lt_of_le_of_lt h (by decide)
theorem boolsD_map' {α : Type} (f : α → Bool) (l : List α) : boolsD (l.map fun x => D.bl (f x)) = some (l.map f) := by
  have := boolsD_map (l.map f)
  rw [List.map_map] at this
  exact this
end SC
namespace SC
open PySem PySem.Spec PyProof.Rows L2
theorem oset_id {O : OH} {p : Addr} {h : List D} (e : O p = some h) : oset O p h = O := by
  funext b
  unfold oset
  by_cases z : b = p
  · rw [if_pos z, z, e]
  · rw [if_neg z]
theorem oset_at {O : OH} {p q : Addr} {h : List D} (n : q ≠ p) : oset O p h q = O q := oset_ne n
/-- the hand that a law draws from -/
def HandOk (h : List D) : Prop := ∃ (cs : List Int) (i big seed c : Int), h = [.lst (cs.map .int), .int i, .int big, .int seed, .int c] ∧ 0 ≤ i
def spHand : DSp := fun ds O k => ∃ ns : List Int, ds = [.fz (ns.map .int)] ∧ ns.length ≤ 63 ∧ ∀ p h, O p = none → HandOk h → k (.own p) (oset O p h)
def spDraw : DSp := fun ds O k => ∃ p h m, ds = [.own p, .int m] ∧ O p = some h ∧ HandOk h ∧ 0 < m ∧ m < 1073741824 ∧ ∀ n h', 0 ≤ n → n < m → HandOk h' → k (.int n) (oset O p h')
def spSome : DSp := fun ds O k => ∃ p h xs, ds = [.own p, .lst xs] ∧ O p = some h ∧ HandOk h ∧ xs ≠ [] ∧ xs.length ≤ 1000 ∧ ∀ x ∈ xs, ∀ h', HandOk h' → k x (oset O p h')
theorem ln_spHand : ∀ ds O k, spHand ds O k → ds.length = 1 := by rintro ds O k ⟨ns, rfl, _⟩; rfl
theorem ln_spDraw : ∀ ds O k, spDraw ds O k → ds.length = 2 := by rintro ds O k ⟨p, h, m, rfl, _⟩; rfl
theorem ln_spSome : ∀ ds O k, spSome ds O k → ds.length = 2 := by rintro ds O k ⟨p, h, m, rfl, _⟩; rfl
theorem ixN_lt {n : Nat} {i : Int} (h0 : 0 ≤ i) (h1 : i < n) : ixN n i = some i.toNat := by unfold ixN; rw [if_pos h0, if_pos h1]
theorem atI_map {α β : Type} {f : α → β} {xs : List α} {i : Int} (h0 : 0 ≤ i) (h1 : i < xs.length) : ∃ x, xs[i.toNat]? = some x ∧ atI (xs.map f) i = some (f x) := by
  have hl : i.toNat < xs.length := by omega
  refine ⟨xs[i.toNat], List.getElem?_eq_getElem hl, ?_⟩
  unfold atI
  rw [List.length_map, ixN_lt h0 h1]
  show (xs.map f)[i.toNat]? = _
  rw [List.getElem?_map, List.getElem?_eq_getElem hl]; rfl
theorem ix5 : ixN 5 0 = some 0 ∧ ixN 5 1 = some 1 ∧ ixN 5 2 = some 2 ∧ ixN 5 3 = some 3 ∧ ixN 5 4 = some 4 := by decide
theorem all_map {α : Type} {f : α → D} {P : α → Prop} : ∀ {ys : List D}, (∀ y ∈ ys, ∃ b, y = f b ∧ P b) → ∃ bs : List α, ys = bs.map f ∧ bs.length = ys.length ∧ ∀ b ∈ bs, P b
  | [], _ => ⟨[], rfl, rfl, fun _ h => nomatch h⟩
  | y :: ys, h => by
    obtain ⟨b, rfl, pb⟩ := h y (by simp)
    obtain ⟨bs, rfl, hl, pbs⟩ := all_map (ys := ys) fun z hz => h z (by simp [hz])
    refine ⟨b :: bs, rfl, by simp, fun c hc => ?_⟩
    rcases List.mem_cons.mp hc with rfl | hc
    · exact pb
    · exact pbs c hc
theorem cut_take {α : Type} {xs : List α} {n : Nat} {i : Int} (h : i = (n : Int)) : cutA xs none (some i) = xs.take n := by
  subst h
  unfold cutA
  rw [HT.sIx_none, HT.sIx_nat, List.drop_zero, Nat.sub_zero]
  rcases Nat.le_total n xs.length with z | z
  · rw [Nat.min_eq_left z]
  · rw [Nat.min_eq_right z, List.take_of_length_le (Nat.le_refl _), List.take_of_length_le z]
theorem cut_drop {α : Type} {xs : List α} {n : Nat} {i : Int} (h : i = (n : Int)) : cutA xs (some i) none = xs.drop n := by
  subst h
  unfold cutA
  rw [HT.sIx_none, HT.sIx_nat]
  rcases Nat.le_total n xs.length with z | z
  · rw [Nat.min_eq_left z, List.take_of_length_le]
    rw [List.length_drop]; exact Nat.le_refl _
  · rw [Nat.min_eq_right z, List.drop_of_length_le z, List.drop_of_length_le (Nat.le_refl _)]; simp
theorem atI_in {α : Type} {xs : List α} {n : Nat} {x : α} {i : Int} (hi : i = (n : Int)) (h : xs[n]? = some x) : atI xs i = some x := by subst hi; exact atI_nat h
theorem dThen_by {t u : DS} {k : DEnds} {e : DV} {O : OH} (P : DV → OH → Prop) (h1 : ∀ nx : DV → OH → Prop, (∀ e O, P e O → nx e O) → t { k with nx := nx } e O) (h2 : ∀ e O, P e O → u k e O) : dThen t u k e O := h1 _ h2
theorem mod_lt' {a m : Int} (h : 0 < m) : 0 ≤ a % m ∧ a % m < m := ⟨Int.emod_nonneg _ (by omega), Int.emod_lt_of_pos _ h⟩
end SC
namespace Lk18
open PySem PySem.Spec PyProof.Rows L2 SC
/-! ### data -/
abbrev Box := List (Int × Int)
abbrev Area := List Box
abbrev Row := List Int
def pairD (q : Int × Int) : D := .tup [.int q.1, .int q.2]
def boxD (b : Box) : D := .tup (b.map pairD)
def areaD (a : Area) : D := .tup (a.map boxD)
def rowD (p : Row) : D := .tup (p.map .int)
def cD : Option Int → D
  | none => .non
  | some i => .int i
inductive W where
  | never (a : Area) | within (a : Area) (k : Int) | answered (a b : Area) (k : Int) | ahead (a b : Area) | again (a : Area) (k : Int)
def W.d : W → D
  | .never a => .tup [.str "never", areaD a]
  | .within a k => .tup [.str "within", areaD a, .int k]
  | .answered a b k => .tup [.str "answered", areaD a, areaD b, .int k]
  | .ahead a b => .tup [.str "ahead", areaD a, areaD b]
  | .again a k => .tup [.str "again", areaD a, .int k]
theorem d1 {a : Area} : (W.never a).d = .tup [.str "never", areaD a] := rfl
theorem d2 {a : Area} {k : Int} : (W.within a k).d = .tup [.str "within", areaD a, .int k] := rfl
theorem d3 {a b : Area} {k : Int} : (W.answered a b k).d = .tup [.str "answered", areaD a, areaD b, .int k] := rfl
theorem d4 {a b : Area} : (W.ahead a b).d = .tup [.str "ahead", areaD a, areaD b] := rfl
theorem d5 {a : Area} {k : Int} : (W.again a k).d = .tup [.str "again", areaD a, .int k] := rfl
def W.a : W → Area
  | .never a => a | .within a _ => a | .answered a _ _ => a | .ahead a _ => a | .again a _ => a
/-- small enough -/
def okB (b : Box) : Prop := b.length ≤ 1000
def okA (a : Area) : Prop := a.length ≤ 1000 ∧ ∀ b ∈ a, okB b
def okR (p : Row) : Prop := p.length ≤ 1000
def W.ok : W → Prop
  | .never a => okA a
  | .within a k => okA a ∧ 1 ≤ k ∧ k ≤ 30
  | .answered a b k => okA a ∧ okA b ∧ 1 ≤ k ∧ k ≤ 30
  | .ahead a b => okA a ∧ okA b
  | .again a k => okA a ∧ 1 ≤ k ∧ k ≤ 30
/-! ### what the program's defs tell -/
def inBox (b : Box) (p : Row) : Bool := (p.zip b).all fun q => decide (q.2.1 ≤ q.1) && decide (q.1 ≤ q.2.2)
def inArea (a : Area) (p : Row) : Bool := a.any fun b => inBox b p
def W.oth (w : W) (p : Row) : Bool := match w with
  | .answered _ b _ => inArea b p
  | .ahead _ b => inArea b p
  | _ => false
def aheadC (i o : Bool) : Option Int := if i then some 1 else if o then none else some 0
def firstC (w : W) (i o : Bool) : Option Int := match w with
  | .never _ => if i then none else some 0
  | .within _ _ => if i then some (-1) else some 0
  | .answered _ _ _ => if i && !o then some 1 else some 0
  | .ahead _ _ => aheadC i o
  | .again _ _ => if i then some 0 else some 1
def unlessC (c m : Int) : Option Int := if m < c then none else some c
def nextC (w : W) (c : Option Int) (i o : Bool) : Option Int := match c with
  | none => none
  | some c => match w with
    | .never _ => if i then none else some 0
    | .ahead _ _ => if c = 1 then some 1 else aheadC i o
    | .within _ k => if i || decide (c = -1) then some (-1) else unlessC (c + 1) (k - 1)
    | .answered _ _ k => if o then some 0 else if 0 < c then unlessC (c + 1) k else if i then some 1 else some 0
    | .again _ k => if i then some 0 else unlessC (c + 1) k
def begunC (ws : List W) (p : Row) : List (Option Int) := ws.map fun w => firstC w (inArea w.a p) (w.oth p)
def countedC : List W → List (Option Int) → Row → List (Option Int)
  | w :: ws, c :: cs, p => nextC w c (inArea w.a p) (w.oth p) :: countedC ws cs p
  | _, _, _ => []
/-! ### what the law's own look tells -/
def anyF (h : Nat → Bool) (j n : Nat) : Bool := (List.range (n + 1)).any fun i => decide (j ≤ i) && h i
def brkF (w : W) (h t : Nat → Bool) (n : Nat) : Bool := match w with
  | .never _ => h n
  | .within _ k => decide ((n : Int) = k) && !anyF h 0 n
  | .answered _ _ k => decide (k ≤ (n : Int)) && (h (n - k.toNat) && !anyF t (n - k.toNat) n)
  | .ahead _ _ => t n && !anyF h 0 n
  | .again _ k => decide (k ≤ (n : Int)) && !anyF h (n - k.toNat) n
def eld (h t : Nat → Bool) (n : Nat) : Option Nat := (List.range (n + 1)).find? fun b => h b && !anyF t b n
def runF (h : Nat → Bool) : Nat → Nat
  | 0 => if h 0 then 0 else 1
  | n + 1 => if h (n + 1) then 0 else runF h n + 1
def cntF (w : W) (h t : Nat → Bool) (n : Nat) : Option Int := bif (List.range (n + 1)).any (brkF w h t) then none else match w with
  | .never _ => some 0
  | .within _ _ => some (bif anyF h 0 n then -1 else (n : Int))
  | .answered _ _ _ => some (match eld h t n with
    | some b => (n : Int) - b + 1
    | none => 0)
  | .ahead _ _ => some (bif anyF h 0 n then 1 else 0)
  | .again _ _ => some (runF h n : Nat)
def hA (a : Area) (ps : List Row) (i : Nat) : Bool := inArea a (ps.getD i [])
def W.b : W → Area
  | .answered _ b _ => b | .ahead _ b => b | _ => []
def brk (w : W) (ps : List Row) (n : Nat) : Bool := brkF w (hA w.a ps) (hA w.b ps) n
def cnt (w : W) (ps : List Row) (n : Nat) : Option Int := cntF w (hA w.a ps) (hA w.b ps) n
/-! ### promises -/
def c_WITH_OTHER : D := .tup ((["answered", "ahead"] : List Str).map D.str)
def sp_in_box : DSp := fun ds O k => ∃ b p, ds = [boxD b, rowD p] ∧ okB b ∧ okR p ∧ k (.bl (inBox b p)) O
theorem ln_in_box : ∀ ds O k, sp_in_box ds O k → ds.length = 2 := by rintro ds O k ⟨b, p, rfl, _⟩; rfl
def sp_in_area : DSp := fun ds O k => ∃ a p, ds = [areaD a, rowD p] ∧ okA a ∧ okR p ∧ k (.bl (inArea a p)) O
theorem ln_in_area : ∀ ds O k, sp_in_area ds O k → ds.length = 2 := by rintro ds O k ⟨b, p, rfl, _⟩; rfl
def markD (p : Row) (w : W) : D := .tup [.bl (inArea w.a p), .bl (w.oth p)]
def sp_marks : DSp := fun ds O k => ∃ (ws : List W) (p : Row), ds = [.tup (ws.map W.d), rowD p] ∧ ws.length ≤ 1000 ∧ (∀ w ∈ ws, w.ok) ∧ okR p ∧ k (.tup (ws.map (markD p))) O
theorem ln_marks : ∀ ds O k, sp_marks ds O k → ds.length = 2 := by rintro ds O k ⟨b, p, rfl, _⟩; rfl
def sp_count_at_first : DSp := fun ds O k => ∃ (w : W) (i o : Bool), ds = [w.d, .bl i, .bl o] ∧ k (cD (firstC w i o)) O
theorem ln_count_at_first : ∀ ds O k, sp_count_at_first ds O k → ds.length = 3 := by rintro ds O k ⟨w, i, o, rfl, _⟩; rfl
def sp_ahead_count : DSp := fun ds O k => ∃ (i o : Bool), ds = [.bl i, .bl o] ∧ k (cD (aheadC i o)) O
theorem ln_ahead_count : ∀ ds O k, sp_ahead_count ds O k → ds.length = 2 := by rintro ds O k ⟨i, o, rfl, _⟩; rfl
def sp_unless_above : DSp := fun ds O k => ∃ c m, ds = [.int c, .int m] ∧ k (cD (unlessC c m)) O
theorem ln_unless_above : ∀ ds O k, sp_unless_above ds O k → ds.length = 2 := by rintro ds O k ⟨i, o, rfl, _⟩; rfl
def sp_next_waiting : DSp := fun ds O k => ∃ a b kk c i o, ds = [(W.answered a b kk).d, .int c, .bl i, .bl o] ∧ k (cD (nextC (.answered a b kk) (some c) i o)) O
theorem ln_next_waiting : ∀ ds O k, sp_next_waiting ds O k → ds.length = 4 := by rintro ds O k ⟨a, b, kk, c, i, o, rfl, _⟩; rfl
def sp_next_count : DSp := fun ds O k => ∃ (w : W) (c : Option Int) (i o : Bool), ds = [w.d, cD c, .bl i, .bl o] ∧ k (cD (nextC w c i o)) O
theorem ln_next_count : ∀ ds O k, sp_next_count ds O k → ds.length = 4 := by rintro ds O k ⟨w, c, i, o, rfl, _⟩; rfl
def sp_begun_by : DSp := fun ds O k => ∃ (ws : List W) (p : Row), ds = [.tup (ws.map W.d), .tup (ws.map (markD p))] ∧ ws.length ≤ 1000 ∧ k (.tup ((begunC ws p).map cD)) O
theorem ln_begun_by : ∀ ds O k, sp_begun_by ds O k → ds.length = 2 := by rintro ds O k ⟨b, p, rfl, _⟩; rfl
def sp_counted_by : DSp := fun ds O k => ∃ (ws : List W) (cs : List (Option Int)) (p : Row), ds = [.tup (ws.map W.d), .tup (cs.map cD), .tup (ws.map (markD p))] ∧ ws.length ≤ 1000 ∧ cs.length = ws.length ∧ k (.tup ((countedC ws cs p).map cD)) O
theorem ln_counted_by : ∀ ds O k, sp_counted_by ds O k → ds.length = 3 := by rintro ds O k ⟨b, cs, p, rfl, _⟩; rfl
def sp_begun : DSp := fun ds O k => ∃ (ws : List W) (p : Row), ds = [.tup (ws.map W.d), rowD p] ∧ ws.length ≤ 1000 ∧ (∀ w ∈ ws, w.ok) ∧ okR p ∧ k (.tup ((begunC ws p).map cD)) O
theorem ln_begun : ∀ ds O k, sp_begun ds O k → ds.length = 2 := by rintro ds O k ⟨b, p, rfl, _⟩; rfl
def sp_counted : DSp := fun ds O k => ∃ (ws : List W) (cs : List (Option Int)) (p : Row), ds = [.tup (ws.map W.d), .tup (cs.map cD), rowD p] ∧ ws.length ≤ 1000 ∧ (∀ w ∈ ws, w.ok) ∧ okR p ∧ cs.length = ws.length ∧ k (.tup ((countedC ws cs p).map cD)) O
theorem ln_counted : ∀ ds O k, sp_counted ds O k → ds.length = 3 := by rintro ds O k ⟨b, cs, p, rfl, _⟩; rfl
/-! ### .. of the law's own defs -/
def sp__law_hand : DSp := spHand
theorem ln__law_hand : ∀ ds O k, sp__law_hand ds O k → ds.length = 1 := ln_spHand
def sp__law_draw : DSp := spDraw
theorem ln__law_draw : ∀ ds O k, sp__law_draw ds O k → ds.length = 2 := ln_spDraw
def sp__law_some : DSp := spSome
theorem ln__law_some : ∀ ds O k, sp__law_some ds O k → ds.length = 2 := ln_spSome
def sp__law_in : DSp := sp_in_area
theorem ln__law_in : ∀ ds O k, sp__law_in ds O k → ds.length = 2 := ln_in_area
def sp__law_box : DSp := fun ds O k => ∃ p h ax, ds = [.own p, .int ax] ∧ O p = some h ∧ HandOk h ∧ 0 ≤ ax ∧ ax ≤ 3 ∧ ∀ b h', okB b → HandOk h' → k (boxD b) (oset O p h')
theorem ln__law_box : ∀ ds O k, sp__law_box ds O k → ds.length = 2 := by rintro ds O k ⟨p, h, m, rfl, _⟩; rfl
def sp__law_area : DSp := fun ds O k => ∃ p h ax, ds = [.own p, .int ax] ∧ O p = some h ∧ HandOk h ∧ 0 ≤ ax ∧ ax ≤ 3 ∧ ∀ a h', okA a → HandOk h' → k (areaD a) (oset O p h')
theorem ln__law_area : ∀ ds O k, sp__law_area ds O k → ds.length = 2 := by rintro ds O k ⟨p, h, m, rfl, _⟩; rfl
def sp__law_wish : DSp := fun ds O k => ∃ p h ax, ds = [.own p, .int ax] ∧ O p = some h ∧ HandOk h ∧ 0 ≤ ax ∧ ax ≤ 3 ∧ ∀ (w : W) h', w.ok → HandOk h' → k w.d (oset O p h')
theorem ln__law_wish : ∀ ds O k, sp__law_wish ds O k → ds.length = 2 := by rintro ds O k ⟨p, h, m, rfl, _⟩; rfl
def okP (ps : List Row) : Prop := ps ≠ [] ∧ ps.length ≤ 1000 ∧ ∀ r ∈ ps, okR r
def sp__law_places : DSp := fun ds O k => ∃ p h ax m, ds = [.own p, .int ax, .int m] ∧ O p = some h ∧ HandOk h ∧ 0 ≤ ax ∧ ax ≤ 3 ∧ 0 ≤ m ∧ m ≤ 100 ∧ ∀ ps h', okP ps → HandOk h' → k (.lst (ps.map rowD)) (oset O p h')
theorem ln__law_places : ∀ ds O k, sp__law_places ds O k → ds.length = 3 := by rintro ds O k ⟨p, h, m, n, rfl, _⟩; rfl
def sp__law_breaks : DSp := fun ds O k => ∃ (w : W) (ps : List Row) (n : Nat), ds = [w.d, .lst (ps.map rowD), .int (n : Nat)] ∧ w.ok ∧ okP ps ∧ n < ps.length ∧ k (.bl (brk w ps n)) O
theorem ln__law_breaks : ∀ ds O k, sp__law_breaks ds O k → ds.length = 3 := by rintro ds O k ⟨p, h, m, rfl, _⟩; rfl
def sp__law_count : DSp := fun ds O k => ∃ (w : W) (ps : List Row) (n : Nat), ds = [w.d, .lst (ps.map rowD), .int (n : Nat)] ∧ w.ok ∧ okP ps ∧ n < ps.length ∧ k (cD (cnt w ps n)) O
theorem ln__law_count : ∀ ds O k, sp__law_count ds O k → ds.length = 3 := by rintro ds O k ⟨p, h, m, rfl, _⟩; rfl
def sp__law_is : DSp := fun ds O k => ∃ (cs es : List (Option Int)), ds = [.tup (cs.map cD), .tup (es.map cD)] ∧ cs = es ∧ k (.bl true) O
theorem ln__law_is : ∀ ds O k, sp__law_is ds O k → ds.length = 2 := by rintro ds O k ⟨p, h, rfl, _⟩; rfl
def sp__law_is_walk_right : DSp := fun ds O k => ∃ (ws : List W) (ps : List Row), ds = [.tup (ws.map W.d), .lst (ps.map rowD)] ∧ ws.length ≤ 1000 ∧ (∀ w ∈ ws, w.ok) ∧ okP ps ∧ k (.bl true) O
theorem ln__law_is_walk_right : ∀ ds O k, sp__law_is_walk_right ds O k → ds.length = 2 := by rintro ds O k ⟨p, h, rfl, _⟩; rfl
def sp__law_are_known_right : DSp := fun ds O k => ds = [] ∧ k (.bl true) O
theorem ln__law_are_known_right : ∀ ds O k, sp__law_are_known_right ds O k → ds.length = 0 := by rintro ds O k ⟨rfl, _⟩; rfl
def sp_law : DSp := spLaw
theorem ln_law : ∀ ds O k, sp_law ds O k → ds.length = 1 := by rintro ds O k ⟨ns, rfl, _⟩; rfl
end Lk18
namespace Lk18
theorem anyF_iff {h : Nat → Bool} {j n : Nat} : anyF h j n = true ↔ ∃ i, j ≤ i ∧ i ≤ n ∧ h i = true := by
  unfold anyF
  rw [List.any_eq_true]
  constructor
  · rintro ⟨i, hi, e⟩
    simp only [Bool.and_eq_true, decide_eq_true_eq] at e
    exact ⟨i, e.1, by have := List.mem_range.mp hi; omega, e.2⟩
  · rintro ⟨i, h1, h2, h3⟩
    exact ⟨i, List.mem_range.mpr (by omega), by simp [h1, h3]⟩
theorem anyF_false {h : Nat → Bool} {j n : Nat} : anyF h j n = false ↔ ∀ i, j ≤ i → i ≤ n → h i = false := by
  rw [← Bool.not_eq_true, anyF_iff]
  constructor
  · intro q i h1 h2
    cases e : h i with
    | false => rfl
    | true => exact (q ⟨i, h1, h2, e⟩).elim
  · rintro q ⟨i, h1, h2, h3⟩
    rw [q i h1 h2] at h3; cases h3
theorem any_range {b : Nat → Bool} {n : Nat} : (List.range (n + 1)).any b = true ↔ ∃ i, i ≤ n ∧ b i = true := by
  rw [List.any_eq_true]
  constructor
  · rintro ⟨i, hi, e⟩; exact ⟨i, by have := List.mem_range.mp hi; omega, e⟩
  · rintro ⟨i, hi, e⟩; exact ⟨i, List.mem_range.mpr (by omega), e⟩
theorem any_range_false {b : Nat → Bool} {n : Nat} : (List.range (n + 1)).any b = false ↔ ∀ i, i ≤ n → b i = false := by
  rw [← Bool.not_eq_true, any_range]
  constructor
  · intro q i h1
    cases e : b i with
    | false => rfl
    | true => exact (q ⟨i, h1, e⟩).elim
  · rintro q ⟨i, h1, h3⟩
    rw [q i h1] at h3; cases h3
theorem any_succ {b : Nat → Bool} {n : Nat} : (List.range (n + 1 + 1)).any b = ((List.range (n + 1)).any b || b (n + 1)) := by
  rw [List.range_succ, List.any_append]; simp
/-- the run of places out at the end -/
theorem runF_le : ∀ (h : Nat → Bool) (n : Nat), runF h n ≤ n + 1
  | h, 0 => by unfold runF; split <;> omega
  | h, n + 1 => by
    have := runF_le h n
    unfold runF; split <;> omega
theorem runF_spec : ∀ (h : Nat → Bool) (n m : Nat), m ≤ n + 1 → (m ≤ runF h n ↔ ∀ i, n + 1 - m ≤ i → i ≤ n → h i = false)
  | h, 0, m, hm => by
    unfold runF
    rcases (show m = 0 ∨ m = 1 by omega) with rfl | rfl
    · simp only [Nat.zero_le, true_iff]; intro i h1 h2; omega
    · by_cases e : h 0 = true
      · rw [if_pos e]
        constructor
        · intro q; omega
        · intro q; rw [q 0 (by omega) (by omega)] at e; cases e
      · rw [if_neg e]
        simp only [Nat.le_refl, true_iff]
        intro i h1 h2
        have : i = 0 := by omega
        subst this
        simpa using e
  | h, n + 1, m, hm => by
    unfold runF
    by_cases e : h (n + 1) = true
    · rw [if_pos e]
      constructor
      · intro q i h1 h2; omega
      · intro q
        rcases Nat.eq_zero_or_pos m with z | z
        · omega
        · rw [q (n + 1) (by omega) (by omega)] at e; cases e
    · rw [if_neg e]
      rcases Nat.eq_zero_or_pos m with z | z
      · subst z
        simp only [Nat.zero_le, true_iff]; intro i h1 h2; omega
      · have ih := runF_spec h n (m - 1) (by omega)
        rw [show (m ≤ runF h n + 1) ↔ (m - 1 ≤ runF h n) by omega, ih]
        constructor
        · intro q i h1 h2
          by_cases z2 : i = n + 1
          · subst z2; simpa using e
          · exact q i (by omega) (by omega)
        · intro q i h1 h2
          exact q i (by omega) (by omega)
theorem eld_some {h t : Nat → Bool} {n b : Nat} : eld h t n = some b ↔ b ≤ n ∧ h b = true ∧ anyF t b n = false ∧ ∀ c, c < b → ¬ (h c = true ∧ anyF t c n = false) := by
  unfold eld
  rw [List.find?_range_eq_some]
  simp only [Bool.and_eq_true, Bool.not_eq_true', List.mem_range, Nat.lt_succ_iff]
  constructor
  · rintro ⟨⟨h1, h2⟩, h3, h4⟩
    refine ⟨h3, h1, h2, fun c hc q => ?_⟩
    have := h4 c hc
    simp [q.1, q.2] at this
  · rintro ⟨h1, h2, h3, h4⟩
    refine ⟨⟨h2, h3⟩, h1, fun c hc => ?_⟩
    have := h4 c hc
    cases e : h c with
    | false => simp
    | true =>
      cases e2 : anyF t c n with
      | true => simp
      | false => exact (this ⟨e, e2⟩).elim
theorem eld_none {h t : Nat → Bool} {n : Nat} : eld h t n = none ↔ ∀ c, c ≤ n → ¬ (h c = true ∧ anyF t c n = false) := by
  unfold eld
  rw [List.find?_range_eq_none]
  constructor
  · intro q c hc e
    have := q c (by omega)
    simp [e.1, e.2] at this
  · intro q c hc
    have := q c (by omega)
    cases e : h c with
    | false => simp
    | true =>
      cases e2 : anyF t c n with
      | true => simp
      | false => exact (this ⟨e, e2⟩).elim
end Lk18
namespace Lk18
theorem cnt_first (w : W) (h t : Nat → Bool) (hw : w.ok) : cntF w h t 0 = firstC w (h 0) (t 0) := by
  have r1 : ∀ b : Nat → Bool, (List.range (0 + 1)).any b = b 0 := fun b => by simp
  have an : ∀ b : Nat → Bool, anyF b 0 0 = b 0 := fun b => by simp [anyF]
  unfold cntF
  rw [r1]
  cases w with
  | never a => simp only [brkF, firstC]; cases h 0 <;> simp
  | within a k =>
    obtain ⟨_, h1, _⟩ := hw
    have : decide (((0 : Nat) : Int) = k) = false := by rw [decide_eq_false_iff_not]; omega
    simp only [brkF, firstC, this, Bool.false_and, an, cond_false]
    cases h 0 <;> simp
  | answered a b k =>
    obtain ⟨_, _, h1, _⟩ := hw
    have : decide (k ≤ ((0 : Nat) : Int)) = false := by rw [decide_eq_false_iff_not]; omega
    simp only [brkF, firstC, this, Bool.false_and]
    have e1 : eld h t 0 = if (h 0 && !t 0) = true then some 0 else none := by
      unfold eld
      simp only [Nat.zero_add, List.range_one, List.find?_cons, List.find?_nil, an]
      cases h 0 <;> cases t 0 <;> rfl
    rw [e1]
    cases h 0 <;> cases t 0 <;> simp
  | ahead a b =>
    simp only [brkF, firstC, an, aheadC]
    cases h 0 <;> cases t 0 <;> simp
  | again a k =>
    obtain ⟨_, h1, _⟩ := hw
    have : decide (k ≤ ((0 : Nat) : Int)) = false := by rw [decide_eq_false_iff_not]; omega
    simp only [brkF, firstC, this, Bool.false_and, runF]
    cases h 0 <;> simp
theorem cnt_next (w : W) (h t : Nat → Bool) (n : Nat) (hw : w.ok) : cntF w h t (n + 1) = nextC w (cntF w h t n) (h (n + 1)) (t (n + 1)) := by
  unfold cntF
  rw [any_succ]
  cases e0 : (List.range (n + 1)).any (brkF w h t) with
  | true => simp [nextC]
  | false =>
    have nb := any_range_false.mp e0
    simp only [Bool.false_or, cond_false]
    cases w with
    | never a => simp only [brkF, nextC]; cases h (n + 1) <;> simp
    | ahead a b =>
      simp only [brkF, nextC, aheadC]
      have st : anyF h 0 (n + 1) = (anyF h 0 n || h (n + 1)) := by
        unfold anyF; rw [List.range_succ (n := n + 1), List.any_append]; simp
      rw [st]
      cases anyF h 0 n <;> cases h (n + 1) <;> cases t (n + 1) <;> simp
    | within a k =>
      obtain ⟨_, h1, _⟩ := hw
      simp only [brkF, nextC]
      have st : anyF h 0 (n + 1) = (anyF h 0 n || h (n + 1)) := by
        unfold anyF; rw [List.range_succ (n := n + 1), List.any_append]; simp
      rw [st]
      cases e1 : anyF h 0 n with
      | true => simp
      | false =>
        have hn : (n : Int) < k := by
          rcases Int.lt_or_le (n : Int) k with z | z
          · exact z
          · exfalso
            have := nb k.toNat (by omega)
            simp only [brkF] at this
            have e2 : anyF h 0 k.toNat = false := anyF_false.mpr fun i _ h2 => anyF_false.mp e1 i (by omega) (by omega)
            rw [e2] at this
            simp at this
            omega
        cases h (n + 1) with
        | true => simp
        | false =>
          simp only [Bool.or_false, Bool.not_false, Bool.and_true, Bool.false_or, unlessC]
          have c1 : decide (((n + 1 : Nat) : Int) = k) = decide (k - 1 < (n : Int) + 1) := by
            rw [Bool.eq_iff_iff]; simp only [decide_eq_true_eq]; omega
          have c2 : decide ((n : Int) = -1) = false := by rw [decide_eq_false_iff_not]; omega
          simp only [c1, c2, Bool.false_eq_true, if_false, cond_false]
          by_cases z : k - 1 < (n : Int) + 1
          · simp [z]
          · simp [z]
    | again a k =>
      obtain ⟨_, h1, _⟩ := hw
      obtain ⟨m, rfl⟩ : ∃ m : Nat, k = (m : Int) := ⟨k.toNat, by omega⟩
      have key : ∀ j, brkF (.again a (m : Int)) h t j = decide (m + 1 ≤ runF h j) := fun j => by
        simp only [brkF, Int.toNat_natCast]
        rw [Bool.eq_iff_iff]
        simp only [Bool.and_eq_true, decide_eq_true_eq, Bool.not_eq_true', anyF_false]
        by_cases z : m ≤ j
        · rw [runF_spec h j (m + 1) (by omega)]
          constructor
          · rintro ⟨_, q⟩ i h1 h2; exact q i (by omega) h2
          · intro q; exact ⟨by omega, fun i h1 h2 => q i (by omega) h2⟩
        · have := runF_le h j
          constructor
          · rintro ⟨q, _⟩; omega
          · intro q; omega
      have ev : runF h (n + 1) = if h (n + 1) = true then 0 else runF h n + 1 := rfl
      rw [key]
      simp only [nextC, ev, unlessC]
      cases h (n + 1) with
      | true => simp
      | false =>
        simp only [Bool.false_eq_true, if_false]
        by_cases z : m ≤ runF h n
        · rw [decide_eq_true (show m + 1 ≤ runF h n + 1 by omega), if_pos (by omega)]; rfl
        · rw [decide_eq_false (show ¬ m + 1 ≤ runF h n + 1 by omega), if_neg (by omega)]; simp
    | answered a b k =>
      obtain ⟨_, _, h1, _⟩ := hw
      obtain ⟨m, rfl⟩ : ∃ m : Nat, k = (m : Int) := ⟨k.toNat, by omega⟩
      have hm : 1 ≤ m := by omega
      have key : ∀ j, brkF (.answered a b (m : Int)) h t j = true ↔ m ≤ j ∧ h (j - m) = true ∧ anyF t (j - m) j = false := fun j => by
        simp only [brkF, Int.toNat_natCast, Bool.and_eq_true, decide_eq_true_eq, Bool.not_eq_true']
        constructor
        · rintro ⟨q1, q2, q3⟩; exact ⟨by omega, q2, q3⟩
        · rintro ⟨q1, q2, q3⟩; exact ⟨by omega, q2, q3⟩
      have wait : ∀ c, c ≤ n → h c = true → anyF t c n = false → n < c + m := fun c hc q1 q2 => by
        rcases Nat.lt_or_ge n (c + m) with z | z
        · exact z
        · exfalso
          have := nb (c + m) z
          have q : brkF (.answered a b (m : Int)) h t (c + m) = true := (key _).mpr ⟨by omega, by rw [Nat.add_sub_cancel]; exact q1, by
            rw [Nat.add_sub_cancel]; exact anyF_false.mpr fun i i1 i2 => anyF_false.mp q2 i i1 (by omega)⟩
          rw [this] at q; cases q
      have brk1 : brkF (.answered a b (m : Int)) h t (n + 1) = true ↔ t (n + 1) = false ∧ ∃ c, c + m = n + 1 ∧ h c = true ∧ anyF t c n = false := by
        rw [key]
        constructor
        · rintro ⟨q1, q2, q3⟩
          exact ⟨anyF_false.mp q3 (n + 1) (by omega) (Nat.le_refl _), n + 1 - m, by omega, q2, anyF_false.mpr fun i i1 i2 => anyF_false.mp q3 i i1 (by omega)⟩
        · rintro ⟨q0, c, q1, q2, q3⟩
          refine ⟨by omega, by rw [show n + 1 - m = c by omega]; exact q2, anyF_false.mpr fun i i1 i2 => ?_⟩
          by_cases z : i = n + 1
          · rw [z]; exact q0
          · exact anyF_false.mp q3 i (by omega) (by omega)
      simp only [nextC]
      cases et : t (n + 1) with
      | true =>
        have nb1 : brkF (.answered a b (m : Int)) h t (n + 1) = false := by
          rw [← Bool.not_eq_true, brk1]; rintro ⟨q, _⟩; rw [et] at q; cases q
        have en : eld h t (n + 1) = none := eld_none.mpr fun c hc q => by
          have := anyF_false.mp q.2 (n + 1) hc (Nat.le_refl _)
          rw [et] at this; cases this
        simp [nb1, en]
      | false =>
        have any1 : ∀ c, c ≤ n → (anyF t c (n + 1) = false ↔ anyF t c n = false) := fun c hc => by
          rw [anyF_false, anyF_false]
          constructor
          · intro q i i1 i2; exact q i i1 (by omega)
          · intro q i i1 i2
            by_cases z : i = n + 1
            · rw [z]; exact et
            · exact q i i1 (by omega)
        cases ee : eld h t n with
        | some c =>
          obtain ⟨c1, c2, c3, c4⟩ := eld_some.mp ee
          have e1 : eld h t (n + 1) = some c := eld_some.mpr ⟨by omega, c2, (any1 c c1).mpr c3, fun d hd q => c4 d hd ⟨q.1, (any1 d (by omega)).mp q.2⟩⟩
          have w1 := wait c c1 c2 c3
          have bb : brkF (.answered a b (m : Int)) h t (n + 1) = decide (c + m = n + 1) := by
            rw [Bool.eq_iff_iff, brk1, decide_eq_true_eq]
            constructor
            · rintro ⟨_, d, d1, d2, d3⟩
              by_cases z : d < c
              · exact (c4 d z ⟨d2, d3⟩).elim
              · omega
            · intro q; exact ⟨et, c, q, c2, c3⟩
          have p1 : (0 : Int) < (n : Int) - c + 1 := by omega
          simp only [bb, e1, p1, if_true, Bool.false_eq_true, if_false, unlessC]
          by_cases z : c + m = n + 1
          · rw [decide_eq_true z, if_pos (by omega)]; rfl
          · rw [decide_eq_false z, if_neg (by omega), cond_false]
            congr 1
            omega
        | none =>
          have q0 := eld_none.mp ee
          have nb1 : brkF (.answered a b (m : Int)) h t (n + 1) = false := by
            rw [← Bool.not_eq_true, brk1]; rintro ⟨_, c, d1, d2, d3⟩; exact q0 c (by omega) ⟨d2, d3⟩
          simp only [nb1, Bool.false_eq_true, if_false, Int.lt_irrefl, cond_false]
          cases eh : h (n + 1) with
          | true =>
            have e1 : eld h t (n + 1) = some (n + 1) := eld_some.mpr ⟨Nat.le_refl _, eh, anyF_false.mpr fun i i1 i2 => by rw [show i = n + 1 by omega]; exact et, fun d hd q => q0 d (by omega) ⟨q.1, (any1 d (by omega)).mp q.2⟩⟩
            simp [e1]
          | false =>
            have e1 : eld h t (n + 1) = none := eld_none.mpr fun c hc q => by
              by_cases z : c = n + 1
              · rw [z, eh] at q; exact absurd q.1 (by decide)
              · exact q0 c (by omega) ⟨q.1, (any1 c (by omega)).mp q.2⟩
            simp [e1]
end Lk18
set_option maxHeartbeats 8000000
namespace Lk18
open PySem PySem.Spec PyProof.Rows L2 SC
/-! ### the text -/
def topS (i : Nat) : Stmt := PySem.Challenge.pw_steadycraft_k18_whole_counts_by_the_word.main.body.getD i (.Pass ⟨0, 0, 0, 0⟩)
abbrev s_in_box : Stmt := topS 1
abbrev s_in_area : Stmt := topS 2
abbrev s_marks : Stmt := topS 5
abbrev s_count_at_first : Stmt := topS 6
abbrev s_ahead_count : Stmt := topS 7
abbrev s_next_count : Stmt := topS 8
abbrev s_next_waiting : Stmt := topS 9
abbrev s_unless_above : Stmt := topS 10
abbrev s_begun_by : Stmt := topS 11
abbrev s_counted_by : Stmt := topS 12
abbrev s_begun : Stmt := topS 13
abbrev s_counted : Stmt := topS 14
abbrev s__law_hand : Stmt := topS 16
abbrev s__law_draw : Stmt := topS 17
abbrev s__law_some : Stmt := topS 18
abbrev s__law_in : Stmt := topS 19
abbrev s__law_breaks : Stmt := topS 20
abbrev s__law_box : Stmt := topS 21
abbrev s__law_area : Stmt := topS 22
abbrev s__law_wish : Stmt := topS 23
abbrev s__law_places : Stmt := topS 24
abbrev s__law_count : Stmt := topS 25
abbrev s__law_is : Stmt := topS 26
abbrev s__law_is_walk_right : Stmt := topS 27
abbrev s__law_are_known_right : Stmt := topS 28
abbrev s_law : Stmt := topS 29
theorem sc_in_box : FnScope ["box", "place", "item", "low", "high"] ["box", "place"] (defScope s_in_box) := ⟨rfl, rfl, rfl, by decide +kernel, rfl, by decide +kernel, by decide +kernel⟩
theorem sc_in_area : FnScope ["area", "place", "box"] ["area", "place"] (defScope s_in_area) := ⟨rfl, rfl, rfl, by decide +kernel, rfl, by decide +kernel, by decide +kernel⟩
theorem sc_marks : FnScope ["wishes", "place", "found", "wish", "other"] ["wishes", "place"] (defScope s_marks) := ⟨rfl, rfl, rfl, by decide +kernel, rfl, by decide +kernel, by decide +kernel⟩
theorem sc_count_at_first : FnScope ["wish", "inside", "other", "word"] ["wish", "inside", "other"] (defScope s_count_at_first) := ⟨rfl, rfl, rfl, by decide +kernel, rfl, by decide +kernel, by decide +kernel⟩
theorem sc_ahead_count : FnScope ["inside", "other"] ["inside", "other"] (defScope s_ahead_count) := ⟨rfl, rfl, rfl, by decide +kernel, rfl, by decide +kernel, by decide +kernel⟩
theorem sc_next_count : FnScope ["wish", "count", "inside", "other", "word"] ["wish", "count", "inside", "other"] (defScope s_next_count) := ⟨rfl, rfl, rfl, by decide +kernel, rfl, by decide +kernel, by decide +kernel⟩
theorem sc_next_waiting : FnScope ["wish", "count", "inside", "other"] ["wish", "count", "inside", "other"] (defScope s_next_waiting) := ⟨rfl, rfl, rfl, by decide +kernel, rfl, by decide +kernel, by decide +kernel⟩
theorem sc_unless_above : FnScope ["count", "most"] ["count", "most"] (defScope s_unless_above) := ⟨rfl, rfl, rfl, by decide +kernel, rfl, by decide +kernel, by decide +kernel⟩
theorem sc_begun_by : FnScope ["wishes", "marked", "wish", "inside", "other"] ["wishes", "marked"] (defScope s_begun_by) := ⟨rfl, rfl, rfl, by decide +kernel, rfl, by decide +kernel, by decide +kernel⟩
theorem sc_counted_by : FnScope ["wishes", "counts", "marked", "found", "wish", "count", "inside", "other"] ["wishes", "counts", "marked"] (defScope s_counted_by) := ⟨rfl, rfl, rfl, by decide +kernel, rfl, by decide +kernel, by decide +kernel⟩
theorem sc_begun : FnScope ["wishes", "place"] ["wishes", "place"] (defScope s_begun) := ⟨rfl, rfl, rfl, by decide +kernel, rfl, by decide +kernel, by decide +kernel⟩
theorem sc_counted : FnScope ["wishes", "counts", "place"] ["wishes", "counts", "place"] (defScope s_counted) := ⟨rfl, rfl, rfl, by decide +kernel, rfl, by decide +kernel, by decide +kernel⟩
theorem sc__law_hand : FnScope ["script", "cells", "cell"] ["script"] (defScope s__law_hand) := ⟨rfl, rfl, rfl, by decide +kernel, rfl, by decide +kernel, by decide +kernel⟩
theorem sc__law_draw : FnScope ["hand", "many", "number", "cell", "digit"] ["hand", "many"] (defScope s__law_draw) := ⟨rfl, rfl, rfl, by decide +kernel, rfl, by decide +kernel, by decide +kernel⟩
theorem sc__law_some : FnScope ["hand", "things"] ["hand", "things"] (defScope s__law_some) := ⟨rfl, rfl, rfl, by decide +kernel, rfl, by decide +kernel, by decide +kernel⟩
theorem sc__law_in : FnScope ["area", "place", "box", "one", "low", "high"] ["area", "place"] (defScope s__law_in) := ⟨rfl, rfl, rfl, by decide +kernel, rfl, by decide +kernel, by decide +kernel⟩
theorem sc__law_breaks : FnScope ["wish", "places", "at", "there", "word", "here", "place"] ["wish", "places", "at"] (defScope s__law_breaks) := ⟨rfl, rfl, rfl, by decide +kernel, rfl, by decide +kernel, by decide +kernel⟩
theorem sc__law_box : FnScope ["hand", "axes", "found", "axis", "low"] ["hand", "axes"] (defScope s__law_box) := ⟨rfl, rfl, rfl, by decide +kernel, rfl, by decide +kernel, by decide +kernel⟩
theorem sc__law_area : FnScope ["hand", "axes", "turn"] ["hand", "axes"] (defScope s__law_area) := ⟨rfl, rfl, rfl, by decide +kernel, rfl, by decide +kernel, by decide +kernel⟩
theorem sc__law_wish : FnScope ["hand", "axes", "some", "one", "other", "k"] ["hand", "axes"] (defScope s__law_wish) := ⟨rfl, rfl, rfl, by decide +kernel, rfl, by decide +kernel, by decide +kernel⟩
theorem sc__law_places : FnScope ["hand", "axes", "many", "here", "found", "turn", "axis", "one"] ["hand", "axes", "many"] (defScope s__law_places) := ⟨rfl, rfl, rfl, by decide +kernel, rfl, by decide +kernel, by decide +kernel⟩
theorem sc__law_count : FnScope ["wish", "places", "at", "there", "some", "word", "here", "many", "place", "beat"] ["wish", "places", "at"] (defScope s__law_count) := ⟨rfl, rfl, rfl, by decide +kernel, rfl, by decide +kernel, by decide +kernel⟩
theorem sc__law_is : FnScope ["told", "due", "one", "other"] ["told", "due"] (defScope s__law_is) := ⟨rfl, rfl, rfl, by decide +kernel, rfl, by decide +kernel, by decide +kernel⟩
theorem sc__law_is_walk_right : FnScope ["wishes", "places", "dues", "at", "wish"] ["wishes", "places"] (defScope s__law_is_walk_right) := ⟨rfl, rfl, rfl, by decide +kernel, rfl, by decide +kernel, by decide +kernel⟩
theorem sc__law_are_known_right : FnScope ["line", "wishes", "more", "one", "two"] [] (defScope s__law_are_known_right) := ⟨rfl, rfl, rfl, by decide +kernel, rfl, by decide +kernel, by decide +kernel⟩
theorem sc_law : FnScope ["script", "hand", "turn", "axes", "wishes", "again"] ["script"] (defScope s_law) := ⟨rfl, rfl, rfl, by decide +kernel, rfl, by decide +kernel, by decide +kernel⟩
/-- what the top has left -/
structure Tx (K : PySem.W.Frag) (mg : Str → Option Value) where
  a_in_box : Addr
  d_in_box : FuncData
  f_in_box : Fun K "in_box" "in_box" s_in_box a_in_box d_in_box
  b_in_box : Binds K d_in_box ["box", "place"] []
  m_in_box : mg "in_box" = some (.ref a_in_box)
  a_in_area : Addr
  d_in_area : FuncData
  f_in_area : Fun K "in_area" "in_area" s_in_area a_in_area d_in_area
  b_in_area : Binds K d_in_area ["area", "place"] []
  m_in_area : mg "in_area" = some (.ref a_in_area)
  a_marks : Addr
  d_marks : FuncData
  f_marks : Fun K "marks" "marks" s_marks a_marks d_marks
  b_marks : Binds K d_marks ["wishes", "place"] []
  m_marks : mg "marks" = some (.ref a_marks)
  a_ahead_count : Addr
  d_ahead_count : FuncData
  f_ahead_count : Fun K "ahead_count" "ahead_count" s_ahead_count a_ahead_count d_ahead_count
  b_ahead_count : Binds K d_ahead_count ["inside", "other"] []
  m_ahead_count : mg "ahead_count" = some (.ref a_ahead_count)
  a_count_at_first : Addr
  d_count_at_first : FuncData
  f_count_at_first : Fun K "count_at_first" "count_at_first" s_count_at_first a_count_at_first d_count_at_first
  b_count_at_first : Binds K d_count_at_first ["wish", "inside", "other"] []
  m_count_at_first : mg "count_at_first" = some (.ref a_count_at_first)
  a_unless_above : Addr
  d_unless_above : FuncData
  f_unless_above : Fun K "unless_above" "unless_above" s_unless_above a_unless_above d_unless_above
  b_unless_above : Binds K d_unless_above ["count", "most"] []
  m_unless_above : mg "unless_above" = some (.ref a_unless_above)
  a_next_waiting : Addr
  d_next_waiting : FuncData
  f_next_waiting : Fun K "next_waiting" "next_waiting" s_next_waiting a_next_waiting d_next_waiting
  b_next_waiting : Binds K d_next_waiting ["wish", "count", "inside", "other"] []
  m_next_waiting : mg "next_waiting" = some (.ref a_next_waiting)
  a_next_count : Addr
  d_next_count : FuncData
  f_next_count : Fun K "next_count" "next_count" s_next_count a_next_count d_next_count
  b_next_count : Binds K d_next_count ["wish", "count", "inside", "other"] []
  m_next_count : mg "next_count" = some (.ref a_next_count)
  a_begun_by : Addr
  d_begun_by : FuncData
  f_begun_by : Fun K "begun_by" "begun_by" s_begun_by a_begun_by d_begun_by
  b_begun_by : Binds K d_begun_by ["wishes", "marked"] []
  m_begun_by : mg "begun_by" = some (.ref a_begun_by)
  a_counted_by : Addr
  d_counted_by : FuncData
  f_counted_by : Fun K "counted_by" "counted_by" s_counted_by a_counted_by d_counted_by
  b_counted_by : Binds K d_counted_by ["wishes", "counts", "marked"] []
  m_counted_by : mg "counted_by" = some (.ref a_counted_by)
  a_begun : Addr
  d_begun : FuncData
  f_begun : Fun K "begun" "begun" s_begun a_begun d_begun
  b_begun : Binds K d_begun ["wishes", "place"] []
  m_begun : mg "begun" = some (.ref a_begun)
  a_counted : Addr
  d_counted : FuncData
  f_counted : Fun K "counted" "counted" s_counted a_counted d_counted
  b_counted : Binds K d_counted ["wishes", "counts", "place"] []
  m_counted : mg "counted" = some (.ref a_counted)
  a__law_hand : Addr
  d__law_hand : FuncData
  f__law_hand : Fun K "_law_hand" "_law_hand" s__law_hand a__law_hand d__law_hand
  b__law_hand : Binds K d__law_hand ["script"] []
  m__law_hand : mg "_law_hand" = some (.ref a__law_hand)
  a__law_draw : Addr
  d__law_draw : FuncData
  f__law_draw : Fun K "_law_draw" "_law_draw" s__law_draw a__law_draw d__law_draw
  b__law_draw : Binds K d__law_draw ["hand", "many"] []
  m__law_draw : mg "_law_draw" = some (.ref a__law_draw)
  a__law_some : Addr
  d__law_some : FuncData
  f__law_some : Fun K "_law_some" "_law_some" s__law_some a__law_some d__law_some
  b__law_some : Binds K d__law_some ["hand", "things"] []
  m__law_some : mg "_law_some" = some (.ref a__law_some)
  a__law_in : Addr
  d__law_in : FuncData
  f__law_in : Fun K "_law_in" "_law_in" s__law_in a__law_in d__law_in
  b__law_in : Binds K d__law_in ["area", "place"] []
  m__law_in : mg "_law_in" = some (.ref a__law_in)
  a__law_breaks : Addr
  d__law_breaks : FuncData
  f__law_breaks : Fun K "_law_breaks" "_law_breaks" s__law_breaks a__law_breaks d__law_breaks
  b__law_breaks : Binds K d__law_breaks ["wish", "places", "at"] []
  m__law_breaks : mg "_law_breaks" = some (.ref a__law_breaks)
  a__law_box : Addr
  d__law_box : FuncData
  f__law_box : Fun K "_law_box" "_law_box" s__law_box a__law_box d__law_box
  b__law_box : Binds K d__law_box ["hand", "axes"] []
  m__law_box : mg "_law_box" = some (.ref a__law_box)
  a__law_area : Addr
  d__law_area : FuncData
  f__law_area : Fun K "_law_area" "_law_area" s__law_area a__law_area d__law_area
  b__law_area : Binds K d__law_area ["hand", "axes"] []
  m__law_area : mg "_law_area" = some (.ref a__law_area)
  a__law_wish : Addr
  d__law_wish : FuncData
  f__law_wish : Fun K "_law_wish" "_law_wish" s__law_wish a__law_wish d__law_wish
  b__law_wish : Binds K d__law_wish ["hand", "axes"] []
  m__law_wish : mg "_law_wish" = some (.ref a__law_wish)
  a__law_places : Addr
  d__law_places : FuncData
  f__law_places : Fun K "_law_places" "_law_places" s__law_places a__law_places d__law_places
  b__law_places : Binds K d__law_places ["hand", "axes", "many"] []
  m__law_places : mg "_law_places" = some (.ref a__law_places)
  a__law_count : Addr
  d__law_count : FuncData
  f__law_count : Fun K "_law_count" "_law_count" s__law_count a__law_count d__law_count
  b__law_count : Binds K d__law_count ["wish", "places", "at"] []
  m__law_count : mg "_law_count" = some (.ref a__law_count)
  a__law_is : Addr
  d__law_is : FuncData
  f__law_is : Fun K "_law_is" "_law_is" s__law_is a__law_is d__law_is
  b__law_is : Binds K d__law_is ["told", "due"] []
  m__law_is : mg "_law_is" = some (.ref a__law_is)
  a__law_is_walk_right : Addr
  d__law_is_walk_right : FuncData
  f__law_is_walk_right : Fun K "_law_is_walk_right" "_law_is_walk_right" s__law_is_walk_right a__law_is_walk_right d__law_is_walk_right
  b__law_is_walk_right : Binds K d__law_is_walk_right ["wishes", "places"] []
  m__law_is_walk_right : mg "_law_is_walk_right" = some (.ref a__law_is_walk_right)
  a__law_are_known_right : Addr
  d__law_are_known_right : FuncData
  f__law_are_known_right : Fun K "_law_are_known_right" "_law_are_known_right" s__law_are_known_right a__law_are_known_right d__law_are_known_right
  b__law_are_known_right : Binds K d__law_are_known_right [] []
  m__law_are_known_right : mg "_law_are_known_right" = some (.ref a__law_are_known_right)
  a_law : Addr
  d_law : FuncData
  f_law : Fun K "law" "law" s_law a_law d_law
  b_law : Binds K d_law ["script"] []
  m_law : mg "law" = some (.ref a_law)
  a_WITH_OTHER : Addr
  m_WITH_OTHER : mg "WITH_OTHER" = some (.ref a_WITH_OTHER)
  r_WITH_OTHER : ∀ F, Rep K F (.ref a_WITH_OTHER) c_WITH_OTHER
  z_abs : mg "abs" = none
  z_all : mg "all" = none
  z_any : mg "any" = none
  z_bool : mg "bool" = none
  z_int : mg "int" = none
  z_isinstance : mg "isinstance" = none
  z_len : mg "len" = none
  z_max : mg "max" = none
  z_min : mg "min" = none
  z_range : mg "range" = none
  z_tuple : mg "tuple" = none
  z_zip : mg "zip" = none
end Lk18
namespace Lk18
open PySem PySem.Spec PyProof.Rows L2 SC
/-! ### bodies, on trees -/
noncomputable def bd_in_box : DS := dRet (dCB (rBools fun l => l.all id) (dCons (dComp (dZip (dVar 1) (dVar 0)) (dTg 2 (dGCons (dNm 2) (dGCons (dTg 2 (dGCons (dNm 3) (dGCons (dNm 4) (dGNil)))) (dGNil)))) (dYes) (dChain (dI0 fun i j => .bl (decide (i ≤ j))) (dI0 fun i j => .bl (decide (i ≤ j))) (dVar 3) (dVar 2) (dVar 4)) [2, 3, 4]) (dNil)))
noncomputable def bd_in_area : DS := dRet (dCB (rBools fun l => l.any id) (dCons (dComp (dSeq (dVar 0)) (dNm 2) (dYes) (dCall sp_in_box (dCons (dVar 2) (dCons (dVar 1) (dNil)))) [2]) (dNil)))
noncomputable def bd_marks : DS := dThen (dSet 2 (dLstO (dNil))) (dThen (dFor (dSeq (dVar 0)) (dNm 3) (dThen (dSet 4 (dAndV (dOp (dIn false) (dOp rIxD (dVar 3) (dC (.int 0))) (dC c_WITH_OTHER)) (dCall sp_in_area (dCons (dOp rIxD (dVar 3) (dC (.int 2))) (dCons (dVar 1) (dNil)))))) (dApp (dVar 2) (dTup (dCons (dCall sp_in_area (dCons (dOp rIxD (dVar 3) (dC (.int 1))) (dCons (dVar 1) (dNil)))) (dCons (dVar 4) (dNil))))))) (dRet (dUn rTupX (dVar 2))))
noncomputable def bd_ahead_count : DS := dThen (dIf (dB (dVar 0)) (dRet (dC (.int 1))) (dSkip)) (dRet (dIfE (dB (dVar 1)) (dC .non) (dC (.int 0))))
noncomputable def bd_count_at_first : DS := dThen (dSet 3 (dOp rIxD (dVar 0) (dC (.int 0)))) (dThen (dIf (dB (dOp (dEqS fun r => r) (dVar 3) (dC (.str "never")))) (dRet (dIfE (dB (dVar 1)) (dC .non) (dC (.int 0)))) (dSkip)) (dThen (dIf (dB (dOp (dEqS fun r => r) (dVar 3) (dC (.str "within")))) (dRet (dIfE (dB (dVar 1)) (dUn (dU fun i => .int (-i)) (dC (.int 1))) (dC (.int 0)))) (dSkip)) (dThen (dIf (dB (dOp (dEqS fun r => r) (dVar 3) (dC (.str "answered")))) (dRet (dIfE (dAnd (dB (dVar 1)) (dNot (dB (dVar 2)))) (dC (.int 1)) (dC (.int 0)))) (dSkip)) (dThen (dIf (dB (dOp (dEqS fun r => r) (dVar 3) (dC (.str "ahead")))) (dRet (dCall sp_ahead_count (dCons (dVar 1) (dCons (dVar 2) (dNil))))) (dSkip)) (dRet (dIfE (dB (dVar 1)) (dC (.int 0)) (dC (.int 1))))))))
noncomputable def bd_unless_above : DS := dRet (dIfE (dB (dOp (dI0 fun i j => .bl (decide (j < i))) (dVar 0) (dVar 1))) (dC .non) (dVar 0))
noncomputable def bd_next_waiting : DS := dThen (dIf (dB (dVar 3)) (dRet (dC (.int 0))) (dSkip)) (dThen (dIf (dB (dOp (dI0 fun i j => .bl (decide (j < i))) (dVar 1) (dC (.int 0)))) (dRet (dCall sp_unless_above (dCons (dOp dAddA (dVar 1) (dC (.int 1))) (dCons (dOp rIxD (dVar 0) (dC (.int 3))) (dNil))))) (dSkip)) (dRet (dIfE (dB (dVar 2)) (dC (.int 1)) (dC (.int 0)))))
noncomputable def bd_next_count : DS := dThen (dSet 4 (dOp rIxD (dVar 0) (dC (.int 0)))) (dThen (dIf (dB (dOp (dIsN fun r => r) (dVar 1) (dC .non))) (dRet (dC .non)) (dSkip)) (dThen (dIf (dB (dOp (dEqS fun r => r) (dVar 4) (dC (.str "never")))) (dRet (dIfE (dB (dVar 2)) (dC .non) (dC (.int 0)))) (dSkip)) (dThen (dIf (dB (dOp (dEqS fun r => r) (dVar 4) (dC (.str "ahead")))) (dRet (dIfE (dB (dOp (dEqS fun r => r) (dVar 1) (dC (.int 1)))) (dC (.int 1)) (dCall sp_ahead_count (dCons (dVar 2) (dCons (dVar 3) (dNil)))))) (dSkip)) (dThen (dIf (dB (dOp (dEqS fun r => r) (dVar 4) (dC (.str "within")))) (dThen (dIf (dOr (dB (dVar 2)) (dB (dOp (dEqS fun r => r) (dVar 1) (dUn (dU fun i => .int (-i)) (dC (.int 1)))))) (dRet (dUn (dU fun i => .int (-i)) (dC (.int 1)))) (dSkip)) (dRet (dCall sp_unless_above (dCons (dOp dAddA (dVar 1) (dC (.int 1))) (dCons (dOp (dI0 fun i j => .int (i - j)) (dOp rIxD (dVar 0) (dC (.int 2))) (dC (.int 1))) (dNil)))))) (dSkip)) (dThen (dIf (dB (dOp (dEqS fun r => r) (dVar 4) (dC (.str "answered")))) (dRet (dCall sp_next_waiting (dCons (dVar 0) (dCons (dVar 1) (dCons (dVar 2) (dCons (dVar 3) (dNil))))))) (dSkip)) (dRet (dIfE (dB (dVar 2)) (dC (.int 0)) (dCall sp_unless_above (dCons (dOp dAddA (dVar 1) (dC (.int 1))) (dCons (dOp rIxD (dVar 0) (dC (.int 2))) (dNil)))))))))))
noncomputable def bd_begun_by : DS := dRet (dUn rTupD (dComp (dZip (dVar 0) (dVar 1)) (dTg 2 (dGCons (dNm 2) (dGCons (dTg 2 (dGCons (dNm 3) (dGCons (dNm 4) (dGNil)))) (dGNil)))) (dYes) (dCall sp_count_at_first (dCons (dVar 2) (dCons (dVar 3) (dCons (dVar 4) (dNil))))) [2, 3, 4]))
noncomputable def bd_counted_by : DS := dThen (dSet 3 (dLstO (dNil))) (dThen (dFor (dZip3 (dVar 0) (dVar 1) (dVar 2)) (dTg 3 (dGCons (dNm 4) (dGCons (dNm 5) (dGCons (dTg 2 (dGCons (dNm 6) (dGCons (dNm 7) (dGNil)))) (dGNil))))) (dApp (dVar 3) (dCall sp_next_count (dCons (dVar 4) (dCons (dVar 5) (dCons (dVar 6) (dCons (dVar 7) (dNil)))))))) (dRet (dUn rTupX (dVar 3))))
noncomputable def bd_begun : DS := dRet (dCall sp_begun_by (dCons (dVar 0) (dCons (dCall sp_marks (dCons (dVar 0) (dCons (dVar 1) (dNil)))) (dNil))))
noncomputable def bd_counted : DS := dRet (dCall sp_counted_by (dCons (dVar 0) (dCons (dVar 1) (dCons (dCall sp_marks (dCons (dVar 0) (dCons (dVar 2) (dNil)))) (dNil)))))
noncomputable def bd__law_hand : DS := dThen (dSet 1 (dComp (dSeq (dSl (dVar 0) (dPart0) (dPart (dC (.int 63))))) (dNm 2) (dYes) (dCB rAbsD (dCons (dCB rIntD (dCons (dVar 2) (dNil))) (dNil))) [2])) (dRet (dLstO (dCons (dVar 1) (dCons (dC (.int 0)) (dCons (dC (.int 0)) (dCons (dOp dAddA (dC (.int 181)) (dOp (dI CMul fun i j => .int (i * j)) (dC (.int 7)) (dCB rLenD (dCons (dVar 1) (dNil))))) (dCons (dC (.int 0)) (dNil))))))))
noncomputable def bd__law_draw : DS := dThen (dIf (dAnd (dB (dOp (dEqS fun r => r) (dOp rIxD (dVar 0) (dC (.int 2))) (dC (.int 0)))) (dB (dOp (dI0 fun i j => .bl (decide (i < j))) (dOp rIxD (dVar 0) (dC (.int 1))) (dCB rLenD (dCons (dOp rIxD (dVar 0) (dC (.int 0))) (dNil)))))) (dThen (dSet 3 (dOp rIxD (dOp rIxD (dVar 0) (dC (.int 0))) (dOp rIxD (dVar 0) (dC (.int 1))))) (dThen (dSetIx (dVar 0) (dC (.int 1)) (dOp dAddA (dOp rIxD (dVar 0) (dC (.int 1))) (dC (.int 1)))) (dThen (dSetIx (dVar 0) (dC (.int 3)) (dOp (dI (fun _ j => 0 < j) fun i j => .int (i % j)) (dCB rIntD (dCons (dOp dAddA (dOp dAddA (dOp (dI CMul fun i j => .int (i * j)) (dOp rIxD (dVar 0) (dC (.int 3))) (dC (.int 69621))) (dVar 3)) (dC (.int 97))) (dNil))) (dC (.int 2147483629)))) (dIf (dB (dOp (dI0 fun i j => .bl (decide (j ≤ i))) (dVar 3) (dOp (dI CPow fun i j => .int (i ^ j.toNat)) (dC (.int 10)) (dC (.int 18))))) (dSetIx (dVar 0) (dC (.int 2)) (dVar 3)) (dSkip))))) (dSkip)) (dThen (dIf (dB (dOp (dI0 fun i j => .bl (decide (j < i))) (dOp rIxD (dVar 0) (dC (.int 2))) (dC (.int 0)))) (dThen (dSet 4 (dOp (dI (fun _ j => 0 < j) fun i j => .int (i % j)) (dCB rIntD (dCons (dOp rIxD (dVar 0) (dC (.int 2))) (dNil))) (dVar 1))) (dThen (dSetIx (dVar 0) (dC (.int 2)) (dOp (dI CDiv fun i j => .int (i / j)) (dOp rIxD (dVar 0) (dC (.int 2))) (dVar 1))) (dRet (dVar 4)))) (dSkip)) (dThen (dSetIx (dVar 0) (dC (.int 4)) (dOp dAddA (dOp rIxD (dVar 0) (dC (.int 4))) (dC (.int 1)))) (dThen (dSet 2 (dOp (dI (fun _ j => 0 < j) fun i j => .int (i % j)) (dCB rIntD (dCons (dOp (dI CMul fun i j => .int (i * j)) (dCB rIntD (dCons (dOp dAddA (dOp rIxD (dVar 0) (dC (.int 3))) (dOp (dI CMul fun i j => .int (i * j)) (dC (.int 7919)) (dOp rIxD (dVar 0) (dC (.int 4))))) (dNil))) (dC (.int 48271))) (dNil))) (dC (.int 2147483647)))) (dThen (dSet 2 (dOp (dI (fun _ j => 0 < j) fun i j => .int (i % j)) (dCB rIntD (dCons (dOp (dI CMul fun i j => .int (i * j)) (dVar 2) (dOp dAddA (dOp (dI CDiv fun i j => .int (i / j)) (dVar 2) (dC (.int 1009))) (dC (.int 69621)))) (dNil))) (dC (.int 2147483647)))) (dThen (dSet 2 (dOp (dI (fun _ j => 0 < j) fun i j => .int (i % j)) (dCB rIntD (dCons (dOp (dI CMul fun i j => .int (i * j)) (dVar 2) (dOp dAddA (dOp (dI CDiv fun i j => .int (i / j)) (dVar 2) (dC (.int 2003))) (dC (.int 40692)))) (dNil))) (dC (.int 2147483399)))) (dRet (dOp (dI (fun _ j => 0 < j) fun i j => .int (i % j)) (dCB rIntD (dCons (dOp (dI CDiv fun i j => .int (i / j)) (dVar 2) (dC (.int 16))) (dNil))) (dVar 1))))))))
noncomputable def bd__law_some : DS := dRet (dOp rIxD (dVar 1) (dCall sp__law_draw (dCons (dVar 0) (dCons (dCB rLenD (dCons (dVar 1) (dNil))) (dNil)))))
noncomputable def bd__law_in : DS := dRet (dCB (rBools fun l => l.any id) (dCons (dComp (dSeq (dVar 0)) (dNm 2) (dYes) (dCB (rBools fun l => l.all id) (dCons (dComp (dZip (dVar 1) (dVar 2)) (dTg 2 (dGCons (dNm 3) (dGCons (dTg 2 (dGCons (dNm 4) (dGCons (dNm 5) (dGNil)))) (dGNil)))) (dYes) (dChain (dI0 fun i j => .bl (decide (i ≤ j))) (dI0 fun i j => .bl (decide (i ≤ j))) (dVar 4) (dVar 3) (dVar 5)) [3, 4, 5]) (dNil))) [2]) (dNil)))
noncomputable def bd__law_breaks : DS := dThen (dPar 4 5 (dCons (dOp rIxD (dVar 0) (dC (.int 0))) (dCons (dComp (dSeq (dSl (dVar 1) (dPart0) (dPart (dOp dAddA (dVar 2) (dC (.int 1)))))) (dNm 6) (dYes) (dCall sp__law_in (dCons (dOp rIxD (dVar 0) (dC (.int 1))) (dCons (dVar 6) (dNil)))) [6]) (dNil)))) (dThen (dIf (dB (dOp (dEqS fun r => r) (dVar 4) (dC (.str "never")))) (dRet (dOp rIxD (dVar 5) (dVar 2))) (dSkip)) (dThen (dIf (dB (dOp (dEqS fun r => r) (dVar 4) (dC (.str "within")))) (dRet (dAndV (dOp (dEqS fun r => r) (dVar 2) (dOp rIxD (dVar 0) (dC (.int 2)))) (dNotV (dCB (rBools fun l => l.any id) (dCons (dVar 5) (dNil)))))) (dSkip)) (dThen (dIf (dB (dOp (dEqS fun r => r) (dVar 4) (dC (.str "again")))) (dRet (dAndV (dOp (dI0 fun i j => .bl (decide (j ≤ i))) (dVar 2) (dOp rIxD (dVar 0) (dC (.int 2)))) (dNotV (dCB (rBools fun l => l.any id) (dCons (dSl (dVar 5) (dPart (dOp (dI0 fun i j => .int (i - j)) (dVar 2) (dOp rIxD (dVar 0) (dC (.int 2))))) (dPart0)) (dNil)))))) (dSkip)) (dThen (dSet 3 (dComp (dSeq (dSl (dVar 1) (dPart0) (dPart (dOp dAddA (dVar 2) (dC (.int 1)))))) (dNm 6) (dYes) (dCall sp__law_in (dCons (dOp rIxD (dVar 0) (dC (.int 2))) (dCons (dVar 6) (dNil)))) [6])) (dThen (dIf (dB (dOp (dEqS fun r => r) (dVar 4) (dC (.str "ahead")))) (dRet (dAndV (dOp rIxD (dVar 3) (dVar 2)) (dNotV (dCB (rBools fun l => l.any id) (dCons (dVar 5) (dNil)))))) (dSkip)) (dRet (dAndV (dOp (dI0 fun i j => .bl (decide (j ≤ i))) (dVar 2) (dOp rIxD (dVar 0) (dC (.int 3)))) (dAndV (dOp rIxD (dVar 5) (dOp (dI0 fun i j => .int (i - j)) (dVar 2) (dOp rIxD (dVar 0) (dC (.int 3))))) (dNotV (dCB (rBools fun l => l.any id) (dCons (dSl (dVar 3) (dPart (dOp (dI0 fun i j => .int (i - j)) (dVar 2) (dOp rIxD (dVar 0) (dC (.int 3))))) (dPart0)) (dNil))))))))))))
noncomputable def bd__law_box : DS := dThen (dSet 2 (dLstO (dNil))) (dThen (dFor (dRng1 (dVar 1)) (dNm 3) (dThen (dSet 4 (dCall sp__law_draw (dCons (dVar 0) (dCons (dC (.int 5)) (dNil))))) (dApp (dVar 2) (dTup (dCons (dVar 4) (dCons (dOp dAddA (dVar 4) (dCall sp__law_some (dCons (dVar 0) (dCons (dLst (dCons (dC (.int 0)) (dCons (dC (.int 0)) (dCons (dC (.int 0)) (dCons (dC (.int 1)) (dCons (dC (.int 2)) (dNil))))))) (dNil))))) (dNil))))))) (dRet (dUn rTupX (dVar 2))))
noncomputable def bd__law_area : DS := dRet (dUn rTupD (dComp (dRng1 (dCall sp__law_some (dCons (dVar 0) (dCons (dLst (dCons (dC (.int 1)) (dCons (dC (.int 1)) (dCons (dC (.int 1)) (dCons (dC (.int 2)) (dCons (dC (.int 3)) (dCons (dC (.int 6)) (dCons (dC (.int 0)) (dNil))))))))) (dNil))))) (dNm 2) (dYes) (dCall sp__law_box (dCons (dVar 0) (dCons (dVar 1) (dNil)))) [2]))
noncomputable def bd__law_wish : DS := dThen (dPar3 3 4 5 (dCons (dCall sp__law_area (dCons (dVar 0) (dCons (dVar 1) (dNil)))) (dCons (dCall sp__law_area (dCons (dVar 0) (dCons (dVar 1) (dNil)))) (dCons (dCall sp__law_some (dCons (dVar 0) (dCons (dLst (dCons (dC (.int 1)) (dCons (dC (.int 1)) (dCons (dC (.int 2)) (dCons (dC (.int 2)) (dCons (dC (.int 3)) (dCons (dC (.int 4)) (dCons (dC (.int 7)) (dCons (dC (.int 30)) (dNil)))))))))) (dNil)))) (dNil))))) (dThen (dSet 2 (dLst (dCons (dTup (dCons (dC (.str "never")) (dCons (dVar 3) (dNil)))) (dCons (dTup (dCons (dC (.str "within")) (dCons (dVar 3) (dCons (dVar 5) (dNil))))) (dCons (dTup (dCons (dC (.str "answered")) (dCons (dVar 3) (dCons (dVar 4) (dCons (dVar 5) (dNil)))))) (dCons (dTup (dCons (dC (.str "ahead")) (dCons (dVar 3) (dCons (dVar 4) (dNil))))) (dCons (dTup (dCons (dC (.str "again")) (dCons (dVar 3) (dCons (dVar 5) (dNil))))) (dNil)))))))) (dRet (dCall sp__law_some (dCons (dVar 0) (dCons (dVar 2) (dNil))))))
noncomputable def bd__law_places : DS := dThen (dSet 3 (dUn rTupD (dComp (dRng1 (dVar 1)) (dNm 6) (dYes) (dCall sp__law_draw (dCons (dVar 0) (dCons (dC (.int 6)) (dNil)))) [6]))) (dThen (dSet 4 (dLstO (dCons (dVar 3) (dNil)))) (dThen (dFor (dRng1 (dVar 2)) (dNm 5) (dThen (dIf (dB (dOp (dI0 fun i j => .bl (decide (j < i))) (dCall sp__law_draw (dCons (dVar 0) (dCons (dC (.int 3)) (dNil)))) (dC (.int 0)))) (dSet 3 (dUn rTupD (dComp (dSeq (dVar 3)) (dNm 7) (dYes) (dCB (rTwo fun i j => if j > i then j else i) (dCons (dC (.int 0)) (dCons (dCB (rTwo fun i j => if j < i then j else i) (dCons (dC (.int 6)) (dCons (dOp (dI0 fun i j => .int (i - j)) (dOp dAddA (dVar 7) (dCall sp__law_draw (dCons (dVar 0) (dCons (dC (.int 3)) (dNil))))) (dC (.int 1))) (dNil)))) (dNil)))) [7]))) (dSkip)) (dApp (dVar 4) (dVar 3)))) (dRet (dFrz (dVar 4)))))
noncomputable def bd__law_count : DS := dThen (dIf (dB (dCB (rBools fun l => l.any id) (dCons (dComp (dRng1 (dOp dAddA (dVar 2) (dC (.int 1)))) (dNm 9) (dYes) (dCall sp__law_breaks (dCons (dVar 0) (dCons (dVar 1) (dCons (dVar 9) (dNil))))) [9]) (dNil)))) (dRet (dC .non)) (dSkip)) (dThen (dAsg (dTup (dCons (dOp rIxD (dVar 0) (dC (.int 0))) (dCons (dComp (dSeq (dSl (dVar 1) (dPart0) (dPart (dOp dAddA (dVar 2) (dC (.int 1)))))) (dNm 8) (dYes) (dCall sp__law_in (dCons (dOp rIxD (dVar 0) (dC (.int 1))) (dCons (dVar 8) (dNil)))) [8]) (dNil)))) (dTg 2 (dGCons (dNm 5) (dGCons (dNm 6) (dGNil))))) (dThen (dIf (dB (dOp (dEqS fun r => r) (dVar 5) (dC (.str "never")))) (dRet (dC (.int 0))) (dSkip)) (dThen (dIf (dB (dOp (dEqS fun r => r) (dVar 5) (dC (.str "within")))) (dRet (dIfE (dB (dCB (rBools fun l => l.any id) (dCons (dVar 6) (dNil)))) (dUn (dU fun i => .int (-i)) (dC (.int 1))) (dVar 2))) (dSkip)) (dThen (dIf (dB (dOp (dEqS fun r => r) (dVar 5) (dC (.str "ahead")))) (dRet (dCB rIntD (dCons (dCB (rBools fun l => l.any id) (dCons (dVar 6) (dNil))) (dNil)))) (dSkip)) (dThen (dIf (dB (dOp (dEqS fun r => r) (dVar 5) (dC (.str "again")))) (dThen (dSet 7 (dC (.int 0))) (dThen (dWhile (dAnd (dB (dOp (dI0 fun i j => .bl (decide (i ≤ j))) (dVar 7) (dVar 2))) (dNot (dB (dOp rIxD (dVar 6) (dOp (dI0 fun i j => .int (i - j)) (dVar 2) (dVar 7)))))) (dSet 7 (dOp dAddA (dVar 7) (dC (.int 1))))) (dRet (dVar 7)))) (dSkip)) (dThen (dSet 3 (dComp (dSeq (dSl (dVar 1) (dPart0) (dPart (dOp dAddA (dVar 2) (dC (.int 1)))))) (dNm 8) (dYes) (dCall sp__law_in (dCons (dOp rIxD (dVar 0) (dC (.int 2))) (dCons (dVar 8) (dNil)))) [8])) (dThen (dSet 4 (dComp (dRng1 (dOp dAddA (dVar 2) (dC (.int 1)))) (dNm 9) (dAnd (dB (dOp rIxD (dVar 6) (dVar 9))) (dNot (dB (dCB (rBools fun l => l.any id) (dCons (dSl (dVar 3) (dPart (dVar 9)) (dPart0)) (dNil)))))) (dVar 9) [9])) (dRet (dIfE (dB (dOp (dI0 fun i j => .bl (decide (j < i))) (dCB rLenD (dCons (dVar 4) (dNil))) (dC (.int 0)))) (dOp dAddA (dOp (dI0 fun i j => .int (i - j)) (dVar 2) (dOp rIxD (dVar 4) (dC (.int 0)))) (dC (.int 1))) (dC (.int 0)))))))))))
noncomputable def bd__law_is : DS := dThen (dIf (dOr (dNot (dB (dCB rIsiD (dCons (dVar 0) (dCons (dC (.ty "tuple")) (dNil)))))) (dB (dOp (dEqS fun r => !r) (dCB rLenD (dCons (dVar 0) (dNil))) (dCB rLenD (dCons (dVar 1) (dNil)))))) (dRet (dC (.bl false))) (dSkip)) (dThen (dFor (dZip (dVar 0) (dVar 1)) (dTg 2 (dGCons (dNm 2) (dGCons (dNm 3) (dGNil)))) (dIf (dOr (dB (dOp (dIsN fun r => r) (dVar 2) (dC .non))) (dB (dOp (dIsN fun r => r) (dVar 3) (dC .non)))) (dIf (dOr (dB (dOp (dIsN fun r => !r) (dVar 2) (dC .non))) (dB (dOp (dIsN fun r => !r) (dVar 3) (dC .non)))) (dRet (dC (.bl false))) (dSkip)) (dIf (dOr (dB (dCB rIsiD (dCons (dVar 2) (dCons (dC (.ty "bool")) (dNil))))) (dOr (dNot (dB (dCB rIsiD (dCons (dVar 2) (dCons (dC (.ty "int")) (dNil)))))) (dB (dOp (dEqS fun r => !r) (dVar 2) (dVar 3))))) (dRet (dC (.bl false))) (dSkip)))) (dRet (dC (.bl true))))
noncomputable def bd__law_is_walk_right : DS := dThen (dSet 2 (dComp (dRng1 (dCB rLenD (dCons (dVar 1) (dNil)))) (dNm 3) (dYes) (dUn rTupD (dComp (dSeq (dVar 0)) (dNm 4) (dYes) (dCall sp__law_count (dCons (dVar 4) (dCons (dVar 1) (dCons (dVar 3) (dNil))))) [4])) [3])) (dThen (dIf (dNot (dB (dCall sp__law_is (dCons (dCall sp_begun (dCons (dVar 0) (dCons (dOp rIxD (dVar 1) (dC (.int 0))) (dNil)))) (dCons (dOp rIxD (dVar 2) (dC (.int 0))) (dNil)))))) (dRet (dC (.bl false))) (dSkip)) (dThen (dFor (dRng2 (dC (.int 1)) (dCB rLenD (dCons (dVar 1) (dNil)))) (dNm 3) (dIf (dNot (dB (dCall sp__law_is (dCons (dCall sp_counted (dCons (dVar 0) (dCons (dOp rIxD (dVar 2) (dOp (dI0 fun i j => .int (i - j)) (dVar 3) (dC (.int 1)))) (dCons (dOp rIxD (dVar 1) (dVar 3)) (dNil))))) (dCons (dOp rIxD (dVar 2) (dVar 3)) (dNil)))))) (dRet (dC (.bl false))) (dSkip))) (dRet (dC (.bl true)))))
noncomputable def bd__law_are_known_right : DS := dThen (dSet 0 (dLst (dCons (dTup (dCons (dC (.int 0)) (dNil))) (dCons (dTup (dCons (dC (.int 1)) (dNil))) (dCons (dTup (dCons (dC (.int 1)) (dNil))) (dCons (dTup (dCons (dC (.int 2)) (dNil))) (dCons (dTup (dCons (dC (.int 0)) (dNil))) (dCons (dTup (dCons (dC (.int 1)) (dNil))) (dCons (dTup (dCons (dC (.int 1)) (dNil))) (dCons (dTup (dCons (dC (.int 1)) (dNil))) (dNil))))))))))) (dThen (dAsg (dTup (dCons (dTup (dCons (dTup (dCons (dTup (dCons (dC (.int 1)) (dCons (dC (.int 1)) (dNil)))) (dNil))) (dNil))) (dCons (dTup (dCons (dTup (dCons (dTup (dCons (dC (.int 2)) (dCons (dC (.int 2)) (dNil)))) (dNil))) (dNil))) (dNil)))) (dTg 2 (dGCons (dNm 3) (dGCons (dNm 4) (dGNil))))) (dThen (dSet 1 (dTup (dCons (dTup (dCons (dC (.str "answered")) (dCons (dVar 3) (dCons (dVar 4) (dCons (dC (.int 2)) (dNil)))))) (dCons (dTup (dCons (dC (.str "answered")) (dCons (dVar 3) (dCons (dVar 4) (dCons (dC (.int 3)) (dNil)))))) (dCons (dTup (dCons (dC (.str "within")) (dCons (dVar 4) (dCons (dC (.int 3)) (dNil))))) (dCons (dTup (dCons (dC (.str "again")) (dCons (dVar 4) (dCons (dC (.int 3)) (dNil))))) (dNil))))))) (dThen (dSet 2 (dTup (dCons (dTup (dCons (dC (.str "ahead")) (dCons (dVar 3) (dCons (dVar 4) (dNil))))) (dCons (dTup (dCons (dC (.str "ahead")) (dCons (dVar 4) (dCons (dVar 3) (dNil))))) (dCons (dTup (dCons (dC (.str "never")) (dCons (dTup (dCons (dTup (dCons (dTup (dCons (dC (.int 7)) (dCons (dC (.int 9)) (dNil)))) (dNil))) (dNil))) (dNil)))) (dCons (dTup (dCons (dC (.str "within")) (dCons (dTup (dCons (dTup (dCons (dTup (dCons (dC (.int 5)) (dCons (dC (.int 5)) (dNil)))) (dNil))) (dNil))) (dCons (dC (.int 30)) (dNil))))) (dNil))))))) (dThen (dIf (dOr (dNot (dB (dCall sp__law_is (dCons (dCall sp_begun (dCons (dVar 1) (dCons (dTup (dCons (dC (.int 2)) (dNil))) (dNil)))) (dCons (dTup (dCons (dC (.int 0)) (dCons (dC (.int 0)) (dCons (dUn (dU fun i => .int (-i)) (dC (.int 1))) (dCons (dC (.int 0)) (dNil)))))) (dNil)))))) (dNot (dB (dCall sp__law_is (dCons (dCall sp_begun (dCons (dVar 2) (dCons (dTup (dCons (dC (.int 2)) (dNil))) (dNil)))) (dCons (dTup (dCons (dC .non) (dCons (dC (.int 1)) (dCons (dC (.int 0)) (dCons (dC (.int 0)) (dNil)))))) (dNil))))))) (dRet (dC (.bl false))) (dSkip)) (dRet (dAndV (dCall sp__law_is_walk_right (dCons (dVar 1) (dCons (dVar 0) (dNil)))) (dAndV (dCall sp__law_is_walk_right (dCons (dVar 2) (dCons (dVar 0) (dNil)))) (dCall sp__law_is_walk_right (dCons (dTup (dNil)) (dCons (dVar 0) (dNil)))))))))))
noncomputable def bd_law : DS := dThen (dSet 1 (dCall sp__law_hand (dCons (dVar 0) (dNil)))) (dThen (dIf (dNot (dB (dCall sp__law_are_known_right dNil))) (dRet (dC (.bl false))) (dSkip)) (dThen (dFor (dRng1 (dC (.int 4))) (dNm 2) (dThen (dSet 3 (dOp dAddA (dC (.int 1)) (dCall sp__law_draw (dCons (dVar 1) (dCons (dC (.int 3)) (dNil)))))) (dThen (dSet 4 (dUn rTupD (dComp (dRng1 (dCall sp__law_some (dCons (dVar 1) (dCons (dLst (dCons (dC (.int 1)) (dCons (dC (.int 2)) (dCons (dC (.int 4)) (dNil))))) (dNil))))) (dNm 5) (dYes) (dCall sp__law_wish (dCons (dVar 1) (dCons (dVar 3) (dNil)))) [5]))) (dIf (dNot (dB (dCall sp__law_is_walk_right (dCons (dVar 4) (dCons (dCall sp__law_places (dCons (dVar 1) (dCons (dVar 3) (dCons (dCall sp__law_some (dCons (dVar 1) (dCons (dLst (dCons (dC (.int 0)) (dCons (dC (.int 3)) (dCons (dC (.int 9)) (dCons (dC (.int 18)) (dNil)))))) (dNil)))) (dNil))))) (dNil)))))) (dRet (dC (.bl false))) (dSkip))))) (dRet (dC (.bl true)))))
end Lk18
namespace Lk18
open PySem PySem.Spec PyProof.Rows L2 SC
local macro_rules | `(tactic| walk_at "sc") => `(tactic| simp only [dThen, dSet, dRet, dCall, dCons, dNil, dVar, dC, dCB, dComp, dZip, dSeq, dOp, dIf, dB, dIfE, dNot, dAnd, dOr, dAndV, dOrV, dNotV, dSkip, dExpr, dFor, dApp, dTup, dLst, dLstO, dUn, dPar, dPar3, dAsg, dFrz, frzD, dSetIx, dSl, dPart, dPart0, dRng1, dRng2, dZip3, dEnum, dChain, dNm, dTg, dGCons, dGNil, dYes, dI0, dI, dU, dEqS, eqS, dIsN, isNon, dAddA, dIn, rIxD, rLenD, rBools, rAbsD, rIntD, rTwo, rTupD, rTupX, rIsiD, tyD,
  startD, List.map_cons, List.map_nil, List.length_cons, List.length_nil, Nat.reduceAdd, Nat.reduceSub, List.replicate_succ, List.replicate_zero, List.cons_append, List.nil_append, List.append_nil,
  List.getElem?_cons_zero, List.getElem?_cons_succ, List.set_cons_zero, List.set_cons_succ, wipeD, atI_0, atI_1, atI_2, atI_3, atI_4, oset_same, true_and, and_true])
theorem rd_in_box : ∀ ds O (kk : D → OH → Prop), sp_in_box ds O kk → bd_in_box { nx := fun _ O' => kk .non O', rt := kk } (startD ["box", "place", "item", "low", "high"] ds) O := by
  rintro ds O kk ⟨b, p, rfl, hb, hp, h⟩
  unfold bd_in_box boxD rowD
  walk_at "sc"
  rw [pairsD_map]
  unfold okB at hb
  refine ⟨small_len (by rw [List.length_map, List.length_zip]; omega), dAcc_map _ (fun q => .bl (decide (q.2.1 ≤ q.1) && decide (q.1 ≤ q.2.2))) _ _ _ (fun q _ O k' h' => ?_) ?_⟩
  · unfold pairD
    walk_at "sc"
    revert h'
    cases decide (q.2.1 ≤ q.1) with
    | true => exact fun h' => h'
    | false => exact fun h' => h'
  · rw [List.nil_append, boolsD_map']
    show kk (.bl (((p.zip b).map _).all id)) O
    rw [List.all_map]
    exact h
theorem rd_in_area : ∀ ds O (kk : D → OH → Prop), sp_in_area ds O kk → bd_in_area { nx := fun _ O' => kk .non O', rt := kk } (startD ["area", "place", "box"] ds) O := by
  rintro ds O kk ⟨a, p, rfl, ⟨ha, hb⟩, hp, h⟩
  unfold bd_in_area areaD
  walk_at "sc"
  refine ⟨small_len (by rw [List.length_map]; omega), dAcc_map _ (fun b => .bl (inBox b p)) _ _ _ (fun b hm O k' h' => ?_) ?_⟩
  · walk_at "sc"
    exact ⟨b, p, rfl, hb b hm, hp, h'⟩
  · rw [List.nil_append, boolsD_map']
    show kk (.bl ((a.map _).any id)) O
    rw [List.any_map]
    exact h
theorem rd_ahead_count : ∀ ds O (kk : D → OH → Prop), sp_ahead_count ds O kk → bd_ahead_count { nx := fun _ O' => kk .non O', rt := kk } (startD ["inside", "other"] ds) O := by
  rintro ds O kk ⟨i, o, rfl, h⟩
  unfold bd_ahead_count
  walk_at "sc"
  cases i <;> cases o <;> exact h
theorem rd_unless_above : ∀ ds O (kk : D → OH → Prop), sp_unless_above ds O kk → bd_unless_above { nx := fun _ O' => kk .non O', rt := kk } (startD ["count", "most"] ds) O := by
  rintro ds O kk ⟨c, m, rfl, h⟩
  unfold bd_unless_above
  walk_at "sc"
  unfold unlessC at h
  by_cases z : m < c
  · rw [if_pos z] at h; rw [decide_eq_true z]; exact h
  · rw [if_neg z] at h; rw [decide_eq_false z]; exact h
theorem rd_next_waiting : ∀ ds O (kk : D → OH → Prop), sp_next_waiting ds O kk → bd_next_waiting { nx := fun _ O' => kk .non O', rt := kk } (startD ["wish", "count", "inside", "other"] ds) O := by
  rintro ds O kk ⟨a, b, k, c, i, o, rfl, h⟩
  unfold bd_next_waiting W.d
  walk_at "sc"
  simp only [nextC] at h
  cases o with
  | true => exact h
  | false =>
    simp only [Bool.false_eq_true, if_false] at h
    by_cases z : 0 < c
    · rw [if_pos z] at h; rw [decide_eq_true z]; exact ⟨_, _, rfl, h⟩
    · rw [if_neg z] at h; rw [decide_eq_false z]; cases i <;> exact h
theorem sne : strEq "never" "within" = false ∧ strEq "never" "answered" = false ∧ strEq "never" "ahead" = false ∧ strEq "never" "again" = false ∧ strEq "within" "never" = false ∧ strEq "within" "answered" = false ∧ strEq "within" "ahead" = false ∧ strEq "within" "again" = false ∧ strEq "answered" "never" = false ∧ strEq "answered" "within" = false ∧ strEq "answered" "ahead" = false ∧ strEq "answered" "again" = false ∧ strEq "ahead" "never" = false ∧ strEq "ahead" "within" = false ∧ strEq "ahead" "answered" = false ∧ strEq "ahead" "again" = false ∧ strEq "again" "never" = false ∧ strEq "again" "within" = false ∧ strEq "again" "answered" = false ∧ strEq "again" "ahead" = false := by
  simp only [strEq_eq]
  decide +kernel
theorem rd_count_at_first : ∀ ds O (kk : D → OH → Prop), sp_count_at_first ds O kk → bd_count_at_first { nx := fun _ O' => kk .non O', rt := kk } (startD ["wish", "inside", "other", "word"] ds) O := by
  rintro ds O kk ⟨w, i, o, rfl, h⟩
  unfold bd_count_at_first
  cases w <;> unfold W.d <;> walk_at "sc" <;> simp only [sne, strEq_self] <;> simp only [firstC] at h
  · cases i <;> exact h
  · cases i <;> exact h
  · cases i <;> cases o <;> exact h
  · exact ⟨i, o, rfl, h⟩
  · cases i <;> exact h
theorem rd_next_count : ∀ ds O (kk : D → OH → Prop), sp_next_count ds O kk → bd_next_count { nx := fun _ O' => kk .non O', rt := kk } (startD ["wish", "count", "inside", "other", "word"] ds) O := by
  rintro ds O kk ⟨w, c, i, o, rfl, h⟩
  unfold bd_next_count
  cases c with
  | none =>
    cases w <;> unfold W.d cD <;> walk_at "sc" <;> exact h
  | some c =>
    cases w with
    | never a =>
      unfold W.d cD
      walk_at "sc"
      simp only [sne, strEq_self]
      simp only [nextC] at h
      cases i <;> exact h
    | within a k =>
      unfold W.d cD
      walk_at "sc"
      simp only [sne, strEq_self]
      simp only [nextC] at h
      cases i with
      | true => exact h
      | false =>
        simp only [Bool.false_or] at h ⊢
        by_cases z : c = -1
        · rw [decide_eq_true z] at h ⊢; exact h
        · rw [decide_eq_false z] at h ⊢; exact ⟨_, _, rfl, h⟩
    | answered a b k =>
      unfold cD
      have hd : (W.answered a b k).d = .tup [.str "answered", areaD a, areaD b, .int k] := rfl
      rw [hd]
      walk_at "sc"
      simp only [sne, strEq_self]
      exact ⟨a, b, k, c, i, o, rfl, h⟩
    | ahead a b =>
      unfold W.d cD
      walk_at "sc"
      simp only [sne, strEq_self]
      simp only [nextC] at h
      by_cases z : c = 1
      · rw [if_pos z] at h; rw [decide_eq_true z]; exact h
      · rw [if_neg z] at h; rw [decide_eq_false z]; exact ⟨i, o, rfl, h⟩
    | again a k =>
      unfold W.d cD
      walk_at "sc"
      simp only [sne, strEq_self]
      simp only [nextC] at h
      cases i with
      | true => exact h
      | false => exact ⟨_, _, rfl, h⟩
end Lk18
namespace Lk18
open PySem PySem.Spec PyProof.Rows L2 SC
local macro_rules | `(tactic| walk_at "sc") => `(tactic| simp only [dThen, dSet, dRet, dCall, dCons, dNil, dVar, dC, dCB, dComp, dZip, dSeq, dOp, dIf, dB, dIfE, dNot, dAnd, dOr, dAndV, dOrV, dNotV, dSkip, dExpr, dFor, dApp, dTup, dLst, dLstO, dUn, dPar, dPar3, dAsg, dFrz, frzD, dSetIx, dSl, dPart, dPart0, dRng1, dRng2, dZip3, dEnum, dChain, dNm, dTg, dGCons, dGNil, dYes, dI0, dI, dU, dEqS, eqS, dIsN, isNon, dAddA, dIn, rIxD, rLenD, rBools, rAbsD, rIntD, rTwo, rTupD, rTupX, rIsiD, tyD,
  startD, List.map_cons, List.map_nil, List.length_cons, List.length_nil, Nat.reduceAdd, Nat.reduceSub, List.replicate_succ, List.replicate_zero, List.cons_append, List.nil_append, List.append_nil,
  List.getElem?_cons_zero, List.getElem?_cons_succ, List.set_cons_zero, List.set_cons_succ, wipeD, atI_0, atI_1, atI_2, atI_3, atI_4, oset_same, true_and, and_true])
local macro_rules | `(tactic| walk_at "in") => `(tactic| simp only [c_WITH_OTHER, List.map_cons, List.map_nil, flatF, eqF, sne, strEq_self, List.all_cons, List.all_nil, List.any_cons, List.any_nil, Bool.and_self, Bool.or_self, Bool.or_true, Bool.true_or, Bool.or_false, Bool.false_or, Bool.false_eq_true, if_false, true_and])
/-- an own list grows by what each turn gives -/
theorem rd_marks : ∀ ds O (kk : D → OH → Prop), sp_marks ds O kk → bd_marks { nx := fun _ O' => kk .non O', rt := kk } (startD ["wishes", "place", "found", "wish", "other"] ds) O := by
  rintro ds O kk ⟨ws, p, rfl, hl, hok, hp, h⟩
  unfold bd_marks
  walk_at "sc"
  refine ⟨Nat.zero_le _, fun q nq => ?_⟩
  refine dLoop_ind W.d (fun rest e O' => ∃ done x y, done ++ rest = ws ∧ e = [some (.tup (ws.map W.d)), some (rowD p), some (.own q), x, y] ∧ O' = oset O q (done.map (markD p))) ?_ ?_ ws _ _ ⟨[], none, none, rfl, rfl, rfl⟩
  · rintro w rest e O' ⟨done, x, y, e1, rfl, rfl⟩ nx hn
    have hw : w.ok := hok w (by rw [← e1]; simp)
    have len : (List.map (markD p) done).length < sizeLine := lt_len (by
      have := congrArg List.length e1
      simp only [List.length_append, List.length_cons] at this
      rw [List.length_map]; omega)
    have fin : ∀ d, some d = some w.d → ∀ b, b = w.oth p → nx [some (.tup (ws.map W.d)), some (rowD p), some (.own q), some d, some (.bl b)] (oset (oset O q (done.map (markD p))) q (done.map (markD p) ++ [.tup [.bl (inArea w.a p), .bl b]])) := by
      rintro d hd b rfl
      cases hd
      refine hn _ _ ⟨done ++ [w], _, _, by rw [← e1]; simp, rfl, ?_⟩
      rw [oset_oset, List.map_append]; rfl
    cases w with
    | never a =>
      simp only [d1] at fin ⊢
      walk_at "sc"
      walk_at "in"
      refine ⟨a, p, rfl, hw, hp, small_len (by simp), ?_⟩
      rw [oset_same]
      exact ⟨len, fin _ rfl _ rfl⟩
    | within a k =>
      simp only [d2] at fin ⊢
      walk_at "sc"
      walk_at "in"
      refine ⟨a, p, rfl, hw.1, hp, small_len (by simp), ?_⟩
      rw [oset_same]
      exact ⟨len, fin _ rfl _ rfl⟩
    | again a k =>
      simp only [d5] at fin ⊢
      walk_at "sc"
      walk_at "in"
      refine ⟨a, p, rfl, hw.1, hp, small_len (by simp), ?_⟩
      rw [oset_same]
      exact ⟨len, fin _ rfl _ rfl⟩
    | answered a b k =>
      simp only [d3] at fin ⊢
      walk_at "sc"
      walk_at "in"
      refine ⟨b, p, rfl, hw.2.1, hp, ?_⟩
      simp only [oset_same]
      refine ⟨a, p, rfl, hw.1, hp, small_len (by simp), ?_⟩
      simp only [oset_same]
      exact ⟨len, fin _ rfl _ rfl⟩
    | ahead a b =>
      simp only [d4] at fin ⊢
      walk_at "sc"
      walk_at "in"
      refine ⟨b, p, rfl, hw.2, hp, ?_⟩
      simp only [oset_same]
      refine ⟨a, p, rfl, hw.1, hp, small_len (by simp), ?_⟩
      simp only [oset_same]
      exact ⟨len, fin _ rfl _ rfl⟩
  · rintro e O' ⟨done, x, y, e1, rfl, rfl⟩
    rw [List.append_nil] at e1
    subst e1
    walk_at "sc"
    rw [odel_oset nq]
    exact h
theorem rd_begun_by : ∀ ds O (kk : D → OH → Prop), sp_begun_by ds O kk → bd_begun_by { nx := fun _ O' => kk .non O', rt := kk } (startD ["wishes", "marked", "wish", "inside", "other"] ds) O := by
  rintro ds O kk ⟨ws, p, rfl, hl, h⟩
  unfold bd_begun_by
  walk_at "sc"
  have z : pairsD (ws.map W.d) (ws.map (markD p)) = ws.map fun w => .tup [w.d, markD p w] := by
    clear h hl
    induction ws with
    | nil => rfl
    | cons w ws ih => show _ :: pairsD _ _ = _ :: _; rw [ih]
  rw [z]
  refine ⟨small_len (by rw [List.length_map]; omega), dAcc_map _ (fun w => cD (firstC w (inArea w.a p) (w.oth p))) _ _ _ (fun w _ O k' h' => ?_) ?_⟩
  · unfold markD
    walk_at "sc"
    exact ⟨w, _, _, rfl, h'⟩
  · rw [List.nil_append]
    unfold begunC at h
    rw [List.map_map] at h
    exact h
theorem md {p : Row} {w : W} : markD p w = .tup [.bl (inArea w.a p), .bl (w.oth p)] := rfl
theorem trip_ws (p : Row) : ∀ (ws : List W) (cs : List (Option Int)), trip (ws.map W.d) (cs.map cD) (ws.map (markD p)) = (ws.zip cs).map fun q => .tup [q.1.d, cD q.2, markD p q.1]
  | [], _ => by simp [trip]
  | w :: ws, [] => by simp [trip]
  | w :: ws, c :: cs => by simp [trip, trip_ws p ws cs]
theorem counted_zip (p : Row) : ∀ (ws : List W) (cs : List (Option Int)), countedC ws cs p = (ws.zip cs).map fun q => nextC q.1 q.2 (inArea q.1.a p) (q.1.oth p)
  | [], _ => by simp [countedC]
  | w :: ws, [] => by simp [countedC]
  | w :: ws, c :: cs => by simp [countedC, counted_zip p ws cs]
theorem rd_counted_by : ∀ ds O (kk : D → OH → Prop), sp_counted_by ds O kk → bd_counted_by { nx := fun _ O' => kk .non O', rt := kk } (startD ["wishes", "counts", "marked", "found", "wish", "count", "inside", "other"] ds) O := by
  rintro ds O kk ⟨ws, cs, p, rfl, hl, hc, h⟩
  unfold bd_counted_by
  walk_at "sc"
  refine ⟨Nat.zero_le _, fun q nq => ⟨⟨by simp [hc], by simp⟩, ?_⟩⟩
  rw [trip_ws]
  refine dLoop_ind _ (fun rest e O' => ∃ done x y z w, done ++ rest = ws.zip cs ∧ e = [some (.tup (ws.map W.d)), some (.tup (cs.map cD)), some (.tup (ws.map (markD p))), some (.own q), x, y, z, w] ∧ O' = oset O q (done.map fun q => cD (nextC q.1 q.2 (inArea q.1.a p) (q.1.oth p)))) ?_ ?_ (ws.zip cs) _ _ ⟨[], none, none, none, none, rfl, rfl, rfl⟩
  · rintro ⟨w, c⟩ rest e O' ⟨done, x, y, z, u, e1, rfl, rfl⟩ nx hn
    simp only [md]
    walk_at "sc"
    refine ⟨w, c, _, _, rfl, ?_⟩
    simp only [oset_same]
    refine ⟨lt_len ?_, hn _ _ ⟨done ++ [(w, c)], _, _, _, _, by rw [← e1]; simp, rfl, ?_⟩⟩
    · have := congrArg List.length e1
      simp only [List.length_append, List.length_cons, List.length_zip] at this
      rw [List.length_map]; omega
    · rw [oset_oset, List.map_append]; rfl
  · rintro e O' ⟨done, x, y, z, u, e1, rfl, rfl⟩
    rw [List.append_nil] at e1
    subst e1
    walk_at "sc"
    rw [odel_oset nq]
    rw [counted_zip, List.map_map] at h
    exact h
theorem rd_begun : ∀ ds O (kk : D → OH → Prop), sp_begun ds O kk → bd_begun { nx := fun _ O' => kk .non O', rt := kk } (startD ["wishes", "place"] ds) O := by
  rintro ds O kk ⟨ws, p, rfl, hl, hok, hp, h⟩
  unfold bd_begun
  walk_at "sc"
  exact ⟨ws, p, rfl, hl, hok, hp, ws, p, rfl, hl, h⟩
theorem rd_counted : ∀ ds O (kk : D → OH → Prop), sp_counted ds O kk → bd_counted { nx := fun _ O' => kk .non O', rt := kk } (startD ["wishes", "counts", "place"] ds) O := by
  rintro ds O kk ⟨ws, cs, p, rfl, hl, hok, hp, hc, h⟩
  unfold bd_counted
  walk_at "sc"
  exact ⟨ws, p, rfl, hl, hok, hp, ws, cs, p, rfl, hl, hc, h⟩
end Lk18
namespace Lk18
open PySem PySem.Spec PyProof.Rows L2 SC
local macro_rules | `(tactic| walk_at "sc") => `(tactic| simp only [dThen, dSet, dRet, dCall, dCons, dNil, dVar, dC, dCB, dComp, dZip, dSeq, dOp, dIf, dB, dIfE, dNot, dAnd, dOr, dAndV, dOrV, dNotV, dSkip, dExpr, dFor, dApp, dTup, dLst, dLstO, dUn, dPar, dPar3, dAsg, dFrz, frzD, dSetIx, dSl, dPart, dPart0, dRng1, dRng2, dZip3, dEnum, dChain, dNm, dTg, dGCons, dGNil, dYes, dI0, dI, dU, dEqS, eqS, dIsN, isNon, dAddA, dIn, rIxD, rLenD, rBools, rAbsD, rIntD, rTwo, rTupD, rTupX, rIsiD, tyD,
  startD, List.map_cons, List.map_nil, List.length_cons, List.length_nil, Nat.reduceAdd, Nat.reduceSub, List.replicate_succ, List.replicate_zero, List.cons_append, List.nil_append, List.append_nil,
  List.getElem?_cons_zero, List.getElem?_cons_succ, List.set_cons_zero, List.set_cons_succ, wipeD, atI_0, atI_1, atI_2, atI_3, atI_4, oset_same, oset_oset, true_and, and_true, ix5])
theorem rd__law_draw : ∀ ds O (kk : D → OH → Prop), sp__law_draw ds O kk → bd__law_draw { nx := fun _ O' => kk .non O', rt := kk } (startD ["hand", "many", "number", "cell", "digit"] ds) O := by
  rintro ds O kk ⟨p, h, m, rfl, hO, ⟨cs, i, big, seed, c, rfl, hi⟩, hm, hm2, hk⟩
  rw [← oset_id hO]
  have hdiv : ∀ a b : Int, 0 < b → b < 1073741824 → CDiv a b := fun a b h1 h2 => ⟨h1, h2⟩
  unfold bd__law_draw
  refine dThen_by (fun e O' => ∃ h' x, HandOk h' ∧ e = [some (.own p), some (.int m), none, x, none] ∧ O' = oset O p h') (fun nx hn => ?_) ?_
  · walk_at "sc"
    by_cases z : big = 0
    · rw [decide_eq_true z]
      walk_at "sc"
      rw [List.length_map]
      by_cases z2 : i < (cs.length : Int)
      · rw [decide_eq_true z2]
        obtain ⟨x, _, hx⟩ := atI_map (f := D.int) hi z2
        walk_at "sc"
        simp only [hx]
        refine ⟨.inr ⟨by decide, by decide⟩, by decide, ⟨by decide, by decide, by decide⟩, ?_⟩
        by_cases z3 : (10 : Int) ^ (18 : Int).toNat ≤ x
        · rw [decide_eq_true z3]
          exact hn _ _ ⟨_, _, ⟨cs, i + 1, x, _, c, rfl, by omega⟩, rfl, rfl⟩
        · rw [decide_eq_false z3]
          exact hn _ _ ⟨_, _, ⟨cs, i + 1, big, _, c, rfl, by omega⟩, rfl, rfl⟩
      · rw [decide_eq_false z2]
        exact hn _ _ ⟨_, _, ⟨cs, i, big, seed, c, rfl, hi⟩, rfl, rfl⟩
    · rw [decide_eq_false z]
      exact hn _ _ ⟨_, _, ⟨cs, i, big, seed, c, rfl, hi⟩, rfl, rfl⟩
  · rintro e O' ⟨h', x, ⟨cs, i, big, seed, c, rfl, hi⟩, rfl, rfl⟩
    walk_at "sc"
    by_cases z : 0 < big
    · rw [decide_eq_true z]
      walk_at "sc"
      exact ⟨hm, hdiv _ _ hm hm2, hk _ _ (mod_lt' hm).1 (mod_lt' hm).2 ⟨cs, i, _, seed, c, rfl, hi⟩⟩
    · rw [decide_eq_false z]
      walk_at "sc"
      have ub : ∀ a : Int, -(2 ^ 64) < a % 2147483647 ∧ a % 2147483647 < 2 ^ 64 := fun a => by
        have := mod_lt' (a := a) (show (0 : Int) < 2147483647 by decide)
        constructor <;> omega
      exact ⟨.inl ⟨by decide, by decide⟩, .inr ⟨by decide, by decide⟩, by decide, hdiv _ _ (by decide) (by decide), .inl (ub _), by decide, hdiv _ _ (by decide) (by decide), .inl (ub _), by decide, hdiv _ _ (by decide) (by decide), hm, hk _ _ (mod_lt' hm).1 (mod_lt' hm).2 ⟨cs, i, big, seed, _, rfl, hi⟩⟩
end Lk18
namespace Lk18
open PySem PySem.Spec PyProof.Rows L2 SC
local macro_rules | `(tactic| walk_at "sc") => `(tactic| simp only [dThen, dSet, dRet, dCall, dCons, dNil, dVar, dC, dCB, dComp, dZip, dSeq, dOp, dIf, dB, dIfE, dNot, dAnd, dOr, dAndV, dOrV, dNotV, dSkip, dExpr, dFor, dApp, dTup, dLst, dLstO, dUn, dPar, dPar3, dAsg, dFrz, frzD, dSetIx, dSl, dPart, dPart0, dRng1, dRng2, dZip3, dEnum, dChain, dNm, dTg, dGCons, dGNil, dYes, dI0, dI, dU, dEqS, eqS, dIsN, isNon, dAddA, dIn, rIxD, rLenD, rBools, rAbsD, rIntD, rTwo, rTupD, rTupX, rIsiD, tyD,
  startD, List.map_cons, List.map_nil, List.length_cons, List.length_nil, Nat.reduceAdd, Nat.reduceSub, List.replicate_succ, List.replicate_zero, List.cons_append, List.nil_append, List.append_nil,
  List.getElem?_cons_zero, List.getElem?_cons_succ, List.set_cons_zero, List.set_cons_succ, wipeD, atI_0, atI_1, atI_2, atI_3, atI_4, oset_same, oset_oset, true_and, and_true, ix5])
theorem rd__law_hand : ∀ ds O (kk : D → OH → Prop), sp__law_hand ds O kk → bd__law_hand { nx := fun _ O' => kk .non O', rt := kk } (startD ["script", "cells", "cell"] ds) O := by
  rintro ds O kk ⟨ns, rfl, hl, h⟩
  unfold bd__law_hand
  walk_at "sc"
  rw [cut_take (n := 63) (i := 63) rfl, ← List.map_take]
  refine ⟨small_len (by rw [List.length_map, List.length_take]; omega), dAcc_map _ (fun n => .int (if n < 0 then -n else n)) _ _ _ (fun n _ O k' h' => ?_) ?_⟩
  · walk_at "sc"
    exact h'
  · rw [List.nil_append]
    have e : (ns.take 63).map (fun n => D.int (if n < 0 then -n else n)) = ((ns.take 63).map fun n => if n < 0 then -n else n).map D.int := by rw [List.map_map]; rfl
    rw [e]
    exact ⟨.inl ⟨by decide, by decide⟩, small_len (by simp), fun p hp => h p _ hp ⟨_, 0, 0, _, 0, rfl, by decide⟩⟩
theorem rd__law_some : ∀ ds O (kk : D → OH → Prop), sp__law_some ds O kk → bd__law_some { nx := fun _ O' => kk .non O', rt := kk } (startD ["hand", "things"] ds) O := by
  rintro ds O kk ⟨p, h, xs, rfl, hO, hh, hne, hl, hk⟩
  unfold bd__law_some
  walk_at "sc"
  have pos : 0 < xs.length := List.length_pos_iff.mpr hne
  refine ⟨p, h, _, rfl, hO, hh, by omega, by omega, fun n h' h0 h1 hh' => ?_⟩
  walk_at "sc"
  have hn : n.toNat < xs.length := by omega
  rw [atI_in (n := n.toNat) (by omega) (List.getElem?_eq_getElem hn)]
  exact hk _ (List.getElem_mem hn) h' hh'
theorem rd__law_in : ∀ ds O (kk : D → OH → Prop), sp__law_in ds O kk → bd__law_in { nx := fun _ O' => kk .non O', rt := kk } (startD ["area", "place", "box", "one", "low", "high"] ds) O := by
  rintro ds O kk ⟨a, p, rfl, ⟨ha, hb⟩, hp, h⟩
  unfold bd__law_in areaD
  walk_at "sc"
  refine ⟨small_len (by rw [List.length_map]; omega), dAcc_map _ (fun b => .bl (inBox b p)) _ _ _ (fun b hm O k' h' => ?_) ?_⟩
  · have hb := hb b hm
    unfold okB at hb
    unfold boxD rowD
    walk_at "sc"
    rw [pairsD_map]
    refine ⟨small_len (by rw [List.length_map, List.length_zip]; omega), dAcc_map _ (fun q => .bl (decide (q.2.1 ≤ q.1) && decide (q.1 ≤ q.2.2))) _ _ _ (fun q _ O k' h' => ?_) ?_⟩
    · unfold pairD
      walk_at "sc"
      revert h'
      cases decide (q.2.1 ≤ q.1) with
      | true => exact fun h' => h'
      | false => exact fun h' => h'
    · rw [List.nil_append, boolsD_map']
      show k' (.bl (((p.zip b).map _).all id)) O
      rw [List.all_map]
      exact h'
  · rw [List.nil_append, boolsD_map']
    show kk (.bl ((a.map _).any id)) O
    rw [List.any_map]
    exact h
theorem rd__law_box : ∀ ds O (kk : D → OH → Prop), sp__law_box ds O kk → bd__law_box { nx := fun _ O' => kk .non O', rt := kk } (startD ["hand", "axes", "found", "axis", "low"] ds) O := by
  rintro ds O kk ⟨p, h, ax, rfl, hO, hh, a0, a3, hk⟩
  unfold bd__law_box
  walk_at "sc"
  refine ⟨Nat.zero_le _, fun q nq => ⟨⟨by omega, by omega⟩, ?_⟩⟩
  have qp : q ≠ p := own_ne hO nq
  have hO2 : oset O q [] p = some h := by rw [oset_ne qp.symm]; exact hO
  refine dLoop_ind (α := Nat) (fun i => .int (0 + (i : Int))) (fun rest e O' => ∃ (b : Box) (h' : List D) (x y : Option D), HandOk h' ∧ b.length + rest.length ≤ 3 ∧ e = [some (.own p), some (.int ax), some (.own q), x, y] ∧ O' = oset (oset O q (b.map pairD)) p h') ?_ ?_ (List.range ax.toNat) _ _ ⟨[], h, none, none, hh, by rw [List.length_range]; show 0 + _ ≤ 3; omega, rfl, (oset_id hO2).symm⟩
  · rintro i rest e O' ⟨b, h', x, y, hh', hl, rfl, rfl⟩ nx hn
    walk_at "sc"
    refine ⟨p, h', 5, rfl, oset_same, hh', by decide, by decide, fun n h2 n0 n1 hh2 => ?_⟩
    walk_at "sc"
    simp only [oset_ne qp, oset_same]
    refine ⟨small_len (by simp), p, h2, _, rfl, oset_same, hh2, by simp, by simp, fun d hd h3 hh3 => ?_⟩
    have hd : ∃ v : Int, d = .int v := by
      simp only [List.mem_cons, List.not_mem_nil, or_false] at hd
      rcases hd with rfl | rfl | rfl | rfl | rfl <;> exact ⟨_, rfl⟩
    obtain ⟨v, rfl⟩ := hd
    walk_at "sc"
    simp only [oset_ne qp, oset_same]
    refine ⟨small_len (by simp), lt_len ?_, hn _ _ ⟨b ++ [(n, n + v)], h3, _, _, hh3, ?_, rfl, ?_⟩⟩
    · rw [List.length_map]; omega
    · simp only [List.length_append, List.length_cons, List.length_nil] at hl ⊢; omega
    · rw [oset_comm qp.symm, oset_oset, List.map_append]; rfl
  · rintro e O' ⟨b, h', x, y, hh', hl, rfl, rfl⟩
    walk_at "sc"
    simp only [oset_ne qp, oset_same]
    rw [oset_comm qp, odel_oset (by rw [oset_ne qp]; exact nq)]
    exact hk b h' (by unfold okB; omega) hh'
theorem rd__law_area : ∀ ds O (kk : D → OH → Prop), sp__law_area ds O kk → bd__law_area { nx := fun _ O' => kk .non O', rt := kk } (startD ["hand", "axes", "turn"] ds) O := by
  rintro ds O kk ⟨p, h, ax, rfl, hO, hh, a0, a3, hk⟩
  unfold bd__law_area
  walk_at "sc"
  refine ⟨small_len (by simp), p, h, _, rfl, hO, hh, by simp, by simp, fun d hd h2 hh2 => ?_⟩
  have hd : ∃ v : Int, d = .int v ∧ 0 ≤ v ∧ v ≤ 6 := by
    simp only [List.mem_cons, List.not_mem_nil, or_false] at hd
    rcases hd with rfl | rfl | rfl | rfl | rfl | rfl | rfl <;> exact ⟨_, rfl, by decide, by decide⟩
  obtain ⟨v, rfl, v0, v6⟩ := hd
  walk_at "sc"
  refine ⟨⟨by omega, by omega⟩, by rw [rngD_length]; exact small_len (by omega), ?_⟩
  refine dAcc_inv (fun O' => ∃ h', HandOk h' ∧ O' = oset O p h') (fun y => ∃ b, y = boxD b ∧ okB b) _ _ _ ?_ ⟨h2, hh2, rfl⟩ ?_
  · rintro d _ O' k' ⟨h', hh', rfl⟩ hk'
    walk_at "sc"
    exact ⟨p, h', ax, rfl, oset_same, hh', a0, a3, fun b h3 hb hh3 => hk' _ _ ⟨b, rfl, hb⟩ ⟨h3, hh3, by rw [oset_oset]⟩⟩
  · rintro ys O' hy hl ⟨h', hh', rfl⟩
    obtain ⟨bs, rfl, hl2, hb⟩ := all_map hy
    rw [List.nil_append]
    rw [rngD_length] at hl
    exact hk bs h' ⟨by omega, hb⟩ hh'
theorem rd__law_wish : ∀ ds O (kk : D → OH → Prop), sp__law_wish ds O kk → bd__law_wish { nx := fun _ O' => kk .non O', rt := kk } (startD ["hand", "axes", "some", "one", "other", "k"] ds) O := by
  rintro ds O kk ⟨p, h, ax, rfl, hO, hh, a0, a3, hk⟩
  unfold bd__law_wish
  walk_at "sc"
  refine ⟨p, h, ax, rfl, hO, hh, a0, a3, fun a h1 oa hh1 => ⟨p, h1, ax, rfl, oset_same, hh1, a0, a3, fun b h2 ob hh2 => ⟨small_len (by simp), p, h2, _, rfl, by rw [oset_oset]; exact oset_same, hh2, by simp, by simp, fun d hd h3 hh3 => ?_⟩⟩⟩
  have hd : ∃ v : Int, d = .int v ∧ 1 ≤ v ∧ v ≤ 30 := by
    simp only [List.mem_cons, List.not_mem_nil, or_false] at hd
    rcases hd with rfl | rfl | rfl | rfl | rfl | rfl | rfl | rfl <;> exact ⟨_, rfl, by decide, by decide⟩
  obtain ⟨v, rfl, v0, v6⟩ := hd
  walk_at "sc"
  refine ⟨small_len (by simp), small_len (by simp), small_len (by simp), small_len (by simp), small_len (by simp), small_len (by simp), p, h3, _, rfl, oset_same, hh3, by simp, by simp, fun d hd h4 hh4 => ?_⟩
  rw [oset_oset]
  simp only [List.mem_cons, List.not_mem_nil, or_false] at hd
  rcases hd with rfl | rfl | rfl | rfl | rfl
  · exact hk (.never a) h4 oa hh4
  · exact hk (.within a v) h4 ⟨oa, v0, v6⟩ hh4
  · exact hk (.answered a b v) h4 ⟨oa, ob, v0, v6⟩ hh4
  · exact hk (.ahead a b) h4 ⟨oa, ob⟩ hh4
  · exact hk (.again a v) h4 ⟨oa, v0, v6⟩ hh4
end Lk18
namespace Lk18
open PySem PySem.Spec PyProof.Rows L2 SC
local macro_rules | `(tactic| walk_at "sc") => `(tactic| simp only [dThen, dSet, dRet, dCall, dCons, dNil, dVar, dC, dCB, dComp, dZip, dSeq, dOp, dIf, dB, dIfE, dNot, dAnd, dOr, dAndV, dOrV, dNotV, dSkip, dExpr, dFor, dApp, dTup, dLst, dLstO, dUn, dPar, dPar3, dAsg, dFrz, frzD, dSetIx, dSl, dPart, dPart0, dRng1, dRng2, dZip3, dEnum, dChain, dNm, dTg, dGCons, dGNil, dYes, dI0, dI, dU, dEqS, eqS, dIsN, isNon, dAddA, dIn, rIxD, rLenD, rBools, rAbsD, rIntD, rTwo, rTupD, rTupX, rIsiD, tyD,
  startD, List.map_cons, List.map_nil, List.length_cons, List.length_nil, Nat.reduceAdd, Nat.reduceSub, List.replicate_succ, List.replicate_zero, List.cons_append, List.nil_append, List.append_nil,
  List.getElem?_cons_zero, List.getElem?_cons_succ, List.set_cons_zero, List.set_cons_succ, wipeD, atI_0, atI_1, atI_2, atI_3, atI_4, oset_same, oset_oset, true_and, and_true, ix5])
theorem rd__law_places : ∀ ds O (kk : D → OH → Prop), sp__law_places ds O kk → bd__law_places { nx := fun _ O' => kk .non O', rt := kk } (startD ["hand", "axes", "many", "here", "found", "turn", "axis", "one"] ds) O := by
  rintro ds O kk ⟨p, h, ax, m, rfl, hO, hh, a0, a3, m0, m1, hk⟩
  unfold bd__law_places
  walk_at "sc"
  refine ⟨⟨by omega, by omega⟩, by rw [rngD_length]; exact small_len (by omega), ?_⟩
  refine dAcc_inv (fun O' => ∃ h', HandOk h' ∧ O' = oset O p h') (fun y => ∃ n : Int, y = .int n ∧ True) _ _ _ ?_ ⟨h, hh, (oset_id hO).symm⟩ ?_
  · rintro d _ O' k' ⟨h', hh', rfl⟩ hk'
    walk_at "sc"
    exact ⟨p, h', 6, rfl, oset_same, hh', by decide, by decide, fun n h3 _ _ hh3 => hk' _ _ ⟨n, rfl, trivial⟩ ⟨h3, hh3, by rw [oset_oset]⟩⟩
  rintro ys O' hy hl ⟨h', hh', rfl⟩
  obtain ⟨r0, rfl, hl2, _⟩ := all_map hy
  rw [List.nil_append, rngD_length] at *
  refine ⟨small_len (by simp), fun q nq => ⟨⟨by omega, by omega⟩, ?_⟩⟩
  have nq0 : O q = none := by
    by_cases z : q = p
    · subst z; rw [oset_same] at nq; cases nq
    · rw [oset_ne z] at nq; exact nq
  have qp : q ≠ p := own_ne hO nq0
  refine dLoop_ind (α := Nat) (fun i => .int (0 + (i : Int))) (fun rest e O' => ∃ (ps : List Row) (r : Row) (h' : List D) (x y z : Option D), HandOk h' ∧ okP ps ∧ okR r ∧ ps.length + rest.length ≤ 101 ∧ e = [some (.own p), some (.int ax), some (.int m), some (rowD r), some (.own q), x, y, z] ∧ O' = oset (oset O q (ps.map rowD)) p h') ?_ ?_ (List.range m.toNat) _ _ ⟨[r0], r0, h', none, none, none, hh', ⟨by simp, by simp, fun r hr => by rw [List.mem_singleton.mp hr]; unfold okR; omega⟩, by unfold okR; omega, by rw [List.length_range]; simp only [List.length_cons, List.length_nil]; omega, rfl, by rw [oset_comm qp.symm]; rfl⟩
  · rintro i rest e O' ⟨ps, r, h', x, y, z, hh', ⟨hne, hps, hok⟩, hr, hl, rfl, rfl⟩ nx hn
    walk_at "sc"
    refine ⟨p, h', 3, rfl, oset_same, hh', by decide, by decide, fun n h2 n0 n1 hh2 => ?_⟩
    walk_at "sc"
    have fin : ∀ (r' : Row) (h3 : List D) (y z : Option D), okR r' → HandOk h3 → nx [some (.own p), some (.int ax), some (.int m), some (rowD r'), some (.own q), some (.int (0 + (i : Int))), y, z] (oset (oset (oset O q (ps.map rowD)) p h3) q (ps.map rowD ++ [rowD r'])) := fun r' h3 y z o1 o2 => by
      refine hn _ _ ⟨ps ++ [r'], r', h3, _, _, _, o2, ⟨by simp, by simp only [List.length_append, List.length_cons, List.length_nil] at *; omega, fun t ht => ?_⟩, o1, by simp only [List.length_append, List.length_cons, List.length_nil] at *; omega, rfl, ?_⟩
      · rcases List.mem_append.mp ht with ht | ht
        · exact hok t ht
        · rw [List.mem_singleton.mp ht]; exact o1
      · rw [oset_comm qp.symm, oset_oset, List.map_append]; rfl
    have len : (ps.map rowD).length < sizeLine := lt_len (by rw [List.length_map]; omega)
    by_cases c : 0 < n
    · rw [decide_eq_true c]
      unfold rowD
      walk_at "sc"
      unfold okR at hr
      refine ⟨by rw [List.length_map]; exact small_len (by omega), ?_⟩
      refine dAcc_inv (fun O' => ∃ h', HandOk h' ∧ O' = oset (oset O q (ps.map rowD)) p h') (fun y => ∃ n : Int, y = .int n ∧ True) _ _ _ ?_ ⟨h2, hh2, rfl⟩ ?_
      · rintro d hd O' k' ⟨h', hh', rfl⟩ hk'
        obtain ⟨v, _, rfl⟩ := List.mem_map.mp hd
        walk_at "sc"
        refine ⟨p, h', 3, rfl, oset_same, hh', by decide, by decide, fun n h3 _ _ hh3 => ?_⟩
        walk_at "sc"
        exact hk' _ _ ⟨_, rfl, trivial⟩ ⟨h3, hh3, rfl⟩
      · rintro ys O' hy hl2 ⟨h3, hh3, rfl⟩
        obtain ⟨r', rfl, hl3, _⟩ := all_map hy
        rw [List.nil_append]
        simp only [oset_ne qp, oset_same]
        simp only [List.length_map] at hl2
        exact ⟨len, fin r' h3 _ _ (by unfold okR; omega) hh3⟩
    · rw [decide_eq_false c]
      simp only [oset_ne qp, oset_same]
      exact ⟨len, fin r h2 _ _ hr hh2⟩
  · rintro e O' ⟨ps, r, h', x, y, z, hh', hps, hr, hl, rfl, rfl⟩
    walk_at "sc"
    simp only [oset_ne qp, oset_same]
    rw [oset_comm qp, odel_oset (by rw [oset_ne qp]; exact nq0)]
    exact hk ps h' hps hh'
end Lk18
namespace Lk18
open PySem PySem.Spec PyProof.Rows L2 SC
local macro_rules | `(tactic| walk_at "sc") => `(tactic| simp only [dThen, dSet, dRet, dCall, dCons, dNil, dVar, dC, dCB, dComp, dZip, dSeq, dOp, dIf, dB, dIfE, dNot, dAnd, dOr, dAndV, dOrV, dNotV, dSkip, dExpr, dFor, dApp, dTup, dLst, dLstO, dUn, dPar, dPar3, dAsg, dFrz, frzD, dSetIx, dSl, dPart, dPart0, dRng1, dRng2, dZip3, dEnum, dChain, dNm, dTg, dGCons, dGNil, dYes, dI0, dI, dU, dEqS, eqS, dIsN, isNon, dAddA, dIn, rIxD, rLenD, rBools, rAbsD, rIntD, rTwo, rTupD, rTupX, rIsiD, tyD,
  startD, List.map_cons, List.map_nil, List.length_cons, List.length_nil, Nat.reduceAdd, Nat.reduceSub, List.replicate_succ, List.replicate_zero, List.cons_append, List.nil_append, List.append_nil,
  List.getElem?_cons_zero, List.getElem?_cons_succ, List.set_cons_zero, List.set_cons_succ, wipeD, atI_0, atI_1, atI_2, atI_3, atI_4, oset_same, oset_oset, true_and, and_true, ix5])
/-! ### the law's own look -/
theorem here_list {a : Area} {ps : List Row} {n : Nat} (hn : n < ps.length) : (ps.take (n + 1)).map (inArea a) = (List.range (n + 1)).map (hA a ps) := by
  apply List.ext_getElem?
  intro i
  rw [List.getElem?_map, List.getElem?_map, List.getElem?_take]
  by_cases z : i < n + 1
  · rw [if_pos z, List.getElem?_range z, List.getElem?_eq_getElem (show i < ps.length by omega)]
    simp only [Option.map_some]
    unfold hA
    rw [List.getD_eq_getElem?_getD, List.getElem?_eq_getElem (show i < ps.length by omega)]
    rfl
  · rw [if_neg z, List.getElem?_eq_none (by rw [List.length_range]; omega)]; rfl
theorem here_at {h : Nat → Bool} {n j : Nat} {i : Int} (hi : i = (j : Int)) (hj : j ≤ n) : atI (((List.range (n + 1)).map h).map D.bl) i = some (.bl (h j)) :=
  atI_in hi (by rw [List.getElem?_map, List.getElem?_map, List.getElem?_range (by omega)]; rfl)
theorem here_drop {h : Nat → Bool} {n j : Nat} : (((List.range (n + 1)).map h).drop j).any id = anyF h j n := by
  rw [Bool.eq_iff_iff, anyF_iff, List.any_eq_true]
  constructor
  · rintro ⟨x, hx, e⟩
    obtain ⟨i, hi⟩ := List.mem_iff_getElem?.mp hx
    rw [List.getElem?_drop, List.getElem?_map] at hi
    by_cases z : j + i < n + 1
    · rw [List.getElem?_range z] at hi
      have hi : h (j + i) = x := Option.some.inj hi
      exact ⟨j + i, by omega, by omega, by rw [hi]; exact e⟩
    · rw [List.getElem?_eq_none (by rw [List.length_range]; omega)] at hi; cases hi
  · rintro ⟨i, h1, h2, h3⟩
    refine ⟨true, List.mem_iff_getElem?.mpr ⟨i - j, ?_⟩, rfl⟩
    rw [List.getElem?_drop, List.getElem?_map, show j + (i - j) = i by omega, List.getElem?_range (by omega)]
    simp [h3]
theorem here_any {h : Nat → Bool} {n : Nat} : ((List.range (n + 1)).map h).any id = anyF h 0 n := by
  have := here_drop (h := h) (n := n) (j := 0)
  rw [List.drop_zero] at this
  exact this
theorem len_here {h : Nat → Bool} {n : Nat} : (((List.range (n + 1)).map h).map D.bl).length = n + 1 := by simp
/-- [_law_in(area, place) for place in places[:at + 1]] -/
theorem here_comp {a : Area} {ps : List Row} {n : Nat} (oa : okA a) (op : okP ps) (hn : n < ps.length) {te : DE} {i : Nat} {e : DV} {k : List D → OH → Prop} {O : OH}
    (hte : ∀ (r : Row) (O : OH) (k' : D → OH → Prop), sp_in_area [areaD a, rowD r] O k' → te (e.set i (some (rowD r))) O k') (h : k (((List.range (n + 1)).map (hA a ps)).map D.bl) O) :
    (cutA (ps.map rowD) none (some ((n : Int) + 1))).length ≤ sizeLine ∧ dAcc (dNm i) dYes te e k (cutA (ps.map rowD) none (some ((n : Int) + 1))) [] O := by
  rw [cut_take (n := n + 1) (i := (n : Int) + 1) (by omega), ← List.map_take]
  have hl := op.2.1
  refine ⟨by rw [List.length_map, List.length_take]; exact small_len (by omega), dAcc_map rowD (fun r => .bl (inArea a r)) _ _ _ (fun r hr O k' h' => ?_) ?_⟩
  · exact hte r O k' ⟨a, r, rfl, oa, op.2.2 r (List.mem_of_mem_take hr), h'⟩
  · rw [List.nil_append, ← here_list hn, List.map_map] at *
    exact h
theorem rd__law_breaks : ∀ ds O (kk : D → OH → Prop), sp__law_breaks ds O kk → bd__law_breaks { nx := fun _ O' => kk .non O', rt := kk } (startD ["wish", "places", "at", "there", "word", "here", "place"] ds) O := by
  rintro ds O kk ⟨w, ps, n, rfl, hw, op, hn, h⟩
  unfold bd__law_breaks
  unfold brk at h
  cases w with
  | never a =>
    simp only [d1]
    walk_at "sc"
    simp only [sne, strEq_self]
    refine here_comp hw op hn (fun r O k' h' => by walk_at "sc"; exact h') ?_
    rw [here_at (n := n) rfl (Nat.le_refl _)]
    exact h
  | within a k =>
    simp only [d2]
    walk_at "sc"
    simp only [sne, strEq_self]
    refine here_comp hw.1 op hn (fun r O k' h' => by walk_at "sc"; exact h') ?_
    simp only [boolsD_map, here_any]
    simp only [brkF] at h
    by_cases z : (n : Int) = k
    · rw [decide_eq_true z] at h ⊢; exact h
    · rw [decide_eq_false z] at h ⊢; exact h
  | ahead a b =>
    simp only [d4]
    walk_at "sc"
    simp only [sne, strEq_self]
    refine here_comp hw.1 op hn (fun r O k' h' => by walk_at "sc"; exact h') ?_
    refine here_comp hw.2 op hn (fun r O k' h' => by walk_at "sc"; exact h') ?_
    rw [here_at (n := n) rfl (Nat.le_refl _)]
    simp only [boolsD_map, here_any]
    simp only [brkF, W.a, W.b] at h
    cases z : hA b ps n with
    | true => rw [z] at h; exact h
    | false => rw [z] at h; exact h
  | again a k =>
    simp only [d5]
    walk_at "sc"
    simp only [sne, strEq_self]
    refine here_comp hw.1 op hn (fun r O k' h' => by walk_at "sc"; exact h') ?_
    obtain ⟨m, rfl⟩ : ∃ m : Nat, k = (m : Int) := ⟨k.toNat, by have := hw.2.1; omega⟩
    simp only [brkF, Int.toNat_natCast] at h
    by_cases z : (m : Int) ≤ n
    · rw [decide_eq_true z] at h ⊢
      walk_at "sc"
      rw [cut_drop (n := n - m) (i := (n : Int) - m) (by omega), ← List.map_drop]
      simp only [boolsD_map, here_drop]
      exact h
    · rw [decide_eq_false z] at h ⊢; exact h
  | answered a b k =>
    simp only [d3]
    walk_at "sc"
    simp only [sne, strEq_self]
    refine here_comp hw.1 op hn (fun r O k' h' => by walk_at "sc"; exact h') ?_
    refine here_comp hw.2.1 op hn (fun r O k' h' => by walk_at "sc"; exact h') ?_
    obtain ⟨m, rfl⟩ : ∃ m : Nat, k = (m : Int) := ⟨k.toNat, by have := hw.2.2.1; omega⟩
    simp only [brkF, Int.toNat_natCast, W.a, W.b] at h
    by_cases z : (m : Int) ≤ n
    · rw [decide_eq_true z] at h ⊢
      walk_at "sc"
      rw [here_at (n := n) (j := n - m) (by omega) (by omega)]
      walk_at "sc"
      cases z2 : hA a ps (n - m) with
      | true =>
        rw [z2] at h
        walk_at "sc"
        rw [cut_drop (n := n - m) (i := (n : Int) - m) (by omega), ← List.map_drop]
        simp only [boolsD_map, here_drop]
        exact h
      | false => rw [z2] at h; exact h
    · rw [decide_eq_false z] at h ⊢; exact h
end Lk18
namespace Lk18
open PySem PySem.Spec PyProof.Rows L2 SC
local macro_rules | `(tactic| walk_at "sc") => `(tactic| simp only [dThen, dSet, dRet, dCall, dCons, dNil, dVar, dC, dCB, dComp, dZip, dSeq, dOp, dIf, dB, dIfE, dNot, dAnd, dOr, dAndV, dOrV, dNotV, dSkip, dExpr, dFor, dApp, dTup, dLst, dLstO, dUn, dPar, dPar3, dAsg, dFrz, frzD, dSetIx, dSl, dPart, dPart0, dRng1, dRng2, dZip3, dEnum, dChain, dNm, dTg, dGCons, dGNil, dYes, dI0, dI, dU, dEqS, eqS, dIsN, isNon, dAddA, dIn, rIxD, rLenD, rBools, rAbsD, rIntD, rTwo, rTupD, rTupX, rIsiD, tyD,
  startD, List.map_cons, List.map_nil, List.length_cons, List.length_nil, Nat.reduceAdd, Nat.reduceSub, List.replicate_succ, List.replicate_zero, List.cons_append, List.nil_append, List.append_nil,
  List.getElem?_cons_zero, List.getElem?_cons_succ, List.set_cons_zero, List.set_cons_succ, wipeD, atI_0, atI_1, atI_2, atI_3, atI_4, oset_same, oset_oset, true_and, and_true, ix5])
theorem run_top (h : Nat → Bool) (n : Nat) : runF h n ≤ n → h (n - runF h n) = true := by
  intro hle
  cases e : h (n - runF h n) with
  | true => rfl
  | false =>
    exfalso
    have q := (runF_spec h n (runF h n) (by omega)).mp (Nat.le_refl _)
    have := (runF_spec h n (runF h n + 1) (by omega)).mpr fun i h1 h2 => by
      by_cases z : i = n - runF h n
      · rw [z]; exact e
      · exact q i (by omega) h2
    omega
theorem rd__law_count : ∀ ds O (kk : D → OH → Prop), sp__law_count ds O kk → bd__law_count { nx := fun _ O' => kk .non O', rt := kk } (startD ["wish", "places", "at", "there", "some", "word", "here", "many", "place", "beat"] ds) O := by
  rintro ds O kk ⟨w, ps, n, rfl, hw, op, hn, h⟩
  have hl := op.2.1
  unfold bd__law_count
  unfold cnt cntF at h
  walk_at "sc"
  refine ⟨⟨by omega, by omega⟩, by rw [rngD_length]; exact small_len (by omega), ?_⟩
  rw [show ((n : Int) + 1).toNat = n + 1 by omega]
  refine dAcc_map _ (fun b : Nat => .bl (brk w ps b)) _ _ _ (fun b hb O k' h' => ?_) ?_
  · walk_at "sc"
    have := List.mem_range.mp hb
    exact ⟨w, ps, b, by rw [Int.zero_add], hw, op, by omega, h'⟩
  rw [List.nil_append, boolsD_map']
  show match ((List.range (n + 1)).map (brk w ps)).any id with
    | true => _
    | false => _
  rw [List.any_map]
  rw [show ((List.range (n + 1)).any (id ∘ brk w ps)) = (List.range (n + 1)).any (brkF w (hA w.a ps) (hA w.b ps)) from rfl]
  cases e0 : (List.range (n + 1)).any (brkF w (hA w.a ps) (hA w.b ps)) with
  | true => rw [e0] at h; exact h
  | false =>
    rw [e0, cond_false] at h
    cases w with
    | never a =>
      simp only [d1]
      walk_at "sc"
      simp only [sne, strEq_self]
      refine here_comp hw op hn (fun r O k' h' => by walk_at "sc"; exact h') ?_
      exact ⟨small_len (by simp), h⟩
    | within a k =>
      simp only [d2]
      walk_at "sc"
      simp only [sne, strEq_self]
      refine here_comp hw.1 op hn (fun r O k' h' => by walk_at "sc"; exact h') ?_
      refine ⟨small_len (by simp), ?_⟩
      simp only [boolsD_map, here_any]
      simp only [W.a] at h
      cases z : anyF (hA a ps) 0 n with
      | true => rw [z] at h; exact h
      | false => rw [z] at h; exact h
    | ahead a b =>
      simp only [d4]
      walk_at "sc"
      simp only [sne, strEq_self]
      refine here_comp hw.1 op hn (fun r O k' h' => by walk_at "sc"; exact h') ?_
      refine ⟨small_len (by simp), ?_⟩
      simp only [boolsD_map, here_any]
      simp only [W.a] at h
      cases z : anyF (hA a ps) 0 n with
      | true => rw [z] at h; exact h
      | false => rw [z] at h; exact h
    | again a k =>
      simp only [d5]
      walk_at "sc"
      simp only [sne, strEq_self]
      refine here_comp hw.1 op hn (fun r O k' h' => by walk_at "sc"; exact h') ?_
      refine ⟨small_len (by simp), ?_⟩
      simp only [W.a] at h
      have top := run_top (hA a ps) n
      have spec := runF_spec (hA a ps) n
      have rle := runF_le (hA a ps) n
      generalize hr : runF (hA a ps) n = r at h top spec rle
      refine ⟨fun m e O' => ∃ j : Nat, m = r - j ∧ j ≤ r ∧ O' = O ∧ e = [some (W.again a k).d, some (.lst (ps.map rowD)), some (.int (n : Int)), none, none, some (.str "again"), some (.lst (((List.range (n + 1)).map (hA a ps)).map D.bl)), some (.int (j : Int)), none, none], ⟨r, 0, by omega, by omega, rfl, rfl⟩, ?_⟩
      rintro m e O' ⟨j, rfl, hj, rfl, rfl⟩
      walk_at "sc"
      by_cases z : (j : Int) ≤ n
      · rw [decide_eq_true z]
        walk_at "sc"
        rw [here_at (n := n) (j := n - j) (by omega) (by omega)]
        walk_at "sc"
        by_cases z2 : j = r
        · subst z2
          rw [top (by omega)]
          exact h
        · have := (spec (j + 1) (by omega)).mp (by omega) (n - j) (by omega) (by omega)
          rw [this]
          exact ⟨r - (j + 1), by omega, j + 1, rfl, by omega, by simp⟩
      · rw [decide_eq_false z]
        have : j = r := by omega
        subst this
        exact h
    | answered a b k =>
      simp only [d3]
      walk_at "sc"
      simp only [sne, strEq_self]
      refine here_comp hw.1 op hn (fun r O k' h' => by walk_at "sc"; exact h') ?_
      refine ⟨small_len (by simp), ?_⟩
      refine here_comp hw.2.1 op hn (fun r O k' h' => by walk_at "sc"; exact h') ?_
      refine ⟨⟨by omega, by omega⟩, by rw [rngD_length]; exact small_len (by omega), ?_⟩
      refine dAcc_filter _ (fun b : Nat => .int (0 + (b : Int))) (fun c => hA a ps c && !anyF (hA b ps) c n) _ _ _ (fun c hc O A B h' => ?_) ?_
      · have hc := List.mem_range.mp hc
        walk_at "sc"
        rw [here_at (n := n) (j := c) (by omega) (by omega)]
        walk_at "sc"
        cases z : hA a ps c with
        | false => rw [z] at h'; exact h'
        | true =>
          rw [z] at h'
          walk_at "sc"
          rw [cut_drop (n := c) (i := 0 + (c : Int)) (by omega), ← List.map_drop]
          simp only [boolsD_map, here_drop]
          cases z2 : anyF (hA b ps) c n with
          | true => rw [z2] at h'; exact h'
          | false => rw [z2] at h'; exact h'
      · rw [List.nil_append]
        simp only [W.a, W.b] at h
        have ef : ((List.range (n + 1)).filter fun c => hA a ps c && !anyF (hA b ps) c n).head? = eld (hA a ps) (hA b ps) n := by
          unfold eld; exact List.head?_filter
        generalize ((List.range (n + 1)).filter fun c => hA a ps c && !anyF (hA b ps) c n) = l at ef
        cases l with
        | nil =>
          rw [← ef] at h
          exact h
        | cons c l =>
          rw [← ef] at h
          simp only [List.map_cons, List.length_cons]
          rw [decide_eq_true (by omega)]
          walk_at "sc"
          simp only [Int.zero_add]
          exact h
theorem rd__law_is : ∀ ds O (kk : D → OH → Prop), sp__law_is ds O kk → bd__law_is { nx := fun _ O' => kk .non O', rt := kk } (startD ["told", "due", "one", "other"] ds) O := by
  rintro ds O kk ⟨cs, es, rfl, rfl, h⟩
  unfold bd__law_is
  walk_at "sc"
  have t1 : isTy "tuple" "tuple" = true := by decide
  have t2 : isTy "int" "bool" = false := by decide
  have t3 : isTy "int" "int" = true := by decide
  rw [t1]
  rw [pairsD_map]
  refine ⟨by decide, ?_⟩
  simp only [decide_true, Bool.not_true]
  refine dLoop_ind _ (fun rest e O' => (∀ q ∈ rest, q.1 = q.2) ∧ O' = O ∧ ∃ x y, e = [some (.tup (cs.map cD)), some (.tup (cs.map cD)), x, y]) ?_ ?_ _ _ _ ⟨fun q hq => ?_, rfl, none, none, rfl⟩
  · rintro ⟨c, d⟩ rest e O' ⟨hq, rfl, x, y, rfl⟩ nx hn
    have e1 : c = d := hq (c, d) (by simp)
    subst e1
    have fin : ∀ x y, nx [some (.tup (cs.map cD)), some (.tup (cs.map cD)), x, y] O' := fun x y => hn _ _ ⟨fun q hq' => hq q (by simp [hq']), rfl, _, _, rfl⟩
    cases c with
    | none => simp only [cD]; walk_at "sc"; exact fin _ _
    | some c =>
      simp only [cD]
      walk_at "sc"
      rw [t2, t3]
      simp only [decide_true, Bool.not_true]
      exact ⟨by decide, by decide, fin _ _⟩
  · rintro e O' ⟨_, rfl, x, y, rfl⟩
    walk_at "sc"
    exact h
  · obtain ⟨i, hi⟩ := List.mem_iff_getElem?.mp hq
    rw [List.getElem?_zip_eq_some] at hi
    have := hi.1.symm.trans hi.2
    exact Option.some.inj this
end Lk18
namespace Lk18
open PySem PySem.Spec PyProof.Rows L2 SC
local macro_rules | `(tactic| walk_at "sc") => `(tactic| simp only [dThen, dSet, dRet, dCall, dCons, dNil, dVar, dC, dCB, dComp, dZip, dSeq, dOp, dIf, dB, dIfE, dNot, dAnd, dOr, dAndV, dOrV, dNotV, dSkip, dExpr, dFor, dApp, dTup, dLst, dLstO, dUn, dPar, dPar3, dAsg, dFrz, frzD, dSetIx, dSl, dPart, dPart0, dRng1, dRng2, dZip3, dEnum, dChain, dNm, dTg, dGCons, dGNil, dYes, dI0, dI, dU, dEqS, eqS, dIsN, isNon, dAddA, dIn, rIxD, rLenD, rBools, rAbsD, rIntD, rTwo, rTupD, rTupX, rIsiD, tyD,
  startD, List.map_cons, List.map_nil, List.length_cons, List.length_nil, Nat.reduceAdd, Nat.reduceSub, List.replicate_succ, List.replicate_zero, List.cons_append, List.nil_append, List.append_nil,
  List.getElem?_cons_zero, List.getElem?_cons_succ, List.set_cons_zero, List.set_cons_succ, wipeD, atI_0, atI_1, atI_2, atI_3, atI_4, oset_same, oset_oset, true_and, and_true, ix5])
theorem oth_b (w : W) (p : Row) : w.oth p = inArea w.b p := by cases w <;> rfl
theorem hA_get {a : Area} {ps : List Row} {n : Nat} {p : Row} (h : ps[n]? = some p) : hA a ps n = inArea a p := by
  unfold hA
  rw [List.getD_eq_getElem?_getD, h]; rfl
def dueC (ws : List W) (ps : List Row) (n : Nat) : List (Option Int) := ws.map fun w => cnt w ps n
theorem begun_due {ws : List W} {ps : List Row} {p : Row} (h : ps[0]? = some p) (hw : ∀ w ∈ ws, w.ok) : begunC ws p = dueC ws ps 0 := by
  unfold begunC dueC
  apply List.map_congr_left
  intro w hm
  unfold cnt
  rw [cnt_first w _ _ (hw w hm), hA_get h, hA_get h, oth_b]
theorem counted_due {ps : List Row} {n : Nat} {p : Row} (h : ps[n + 1]? = some p) : ∀ {ws : List W}, (∀ w ∈ ws, w.ok) → countedC ws (dueC ws ps n) p = dueC ws ps (n + 1)
  | [], _ => rfl
  | w :: ws, hw => by
    show nextC w (cnt w ps n) _ _ :: countedC ws (dueC ws ps n) p = cnt w ps (n + 1) :: dueC ws ps (n + 1)
    rw [counted_due h fun v hv => hw v (by simp [hv])]
    unfold cnt
    rw [cnt_next w _ _ n (hw w (by simp)), hA_get h, hA_get h, oth_b]
def dueD (ws : List W) (ps : List Row) (n : Nat) : D := .tup ((dueC ws ps n).map cD)
theorem rd__law_is_walk_right : ∀ ds O (kk : D → OH → Prop), sp__law_is_walk_right ds O kk → bd__law_is_walk_right { nx := fun _ O' => kk .non O', rt := kk } (startD ["wishes", "places", "dues", "at", "wish"] ds) O := by
  rintro ds O kk ⟨ws, ps, rfl, hl, hw, op, h⟩
  have hps := op.2.1
  obtain ⟨p0, ps', eps⟩ : ∃ p0 ps', ps = p0 :: ps' := by
    cases ps with
    | nil => exact (op.1 rfl).elim
    | cons p ps => exact ⟨p, ps, rfl⟩
  have h0 : ps[0]? = some p0 := by rw [eps]; rfl
  unfold bd__law_is_walk_right
  walk_at "sc"
  rw [List.length_map]
  refine ⟨⟨by omega, by omega⟩, by rw [rngD_length]; exact small_len (by omega), ?_⟩
  rw [show ((ps.length : Int)).toNat = ps.length by omega]
  refine dAcc_map _ (fun n : Nat => dueD ws ps n) _ _ _ (fun n hn O k' h' => ?_) ?_
  · walk_at "sc"
    have hn := List.mem_range.mp hn
    refine ⟨by rw [List.length_map]; exact small_len (by omega), dAcc_map W.d (fun w => cD (cnt w ps n)) _ _ _ (fun w hm O k' h' => ?_) ?_⟩
    · walk_at "sc"
      exact ⟨w, ps, n, by rw [Int.zero_add], hw w hm, op, hn, h'⟩
    · rw [List.nil_append]
      unfold dueD dueC at h'
      rw [List.map_map] at h'
      exact h'
  rw [List.nil_append]
  have dueAt : ∀ (n : Nat) (i : Int), i = (n : Int) → n < ps.length → atI ((List.range ps.length).map (dueD ws ps)) i = some (dueD ws ps n) := fun n i hi hn =>
    atI_in hi (by rw [List.getElem?_map, List.getElem?_range hn]; rfl)
  have plcAt : ∀ (n : Nat) (i : Int) (p : Row), i = (n : Int) → ps[n]? = some p → atI (ps.map rowD) i = some (rowD p) := fun n i p hi hp =>
    atI_in hi (by rw [List.getElem?_map, hp]; rfl)
  have okr : ∀ (n : Nat) (p : Row), ps[n]? = some p → okR p := fun n p hp => op.2.2 p (List.mem_iff_getElem?.mpr ⟨n, hp⟩)
  have len1 : ∀ n, (dueC ws ps n).length = ws.length := fun n => by unfold dueC; rw [List.length_map]
  have pos : 0 < ps.length := by rw [eps]; simp
  rw [plcAt 0 0 p0 rfl h0]
  simp only []
  refine ⟨ws, p0, rfl, hl, hw, okr 0 p0 h0, ?_⟩
  rw [dueAt 0 0 rfl pos]
  refine ⟨_, _, rfl, begun_due h0 hw, ?_⟩
  simp only [Bool.not_true]
  refine ⟨⟨by decide, by decide, by omega, by omega⟩, ?_⟩
  unfold rngD
  refine dLoop_ind (α := Nat) (fun i => .int (1 + (i : Int))) (fun rest e O' => (∀ i ∈ rest, i + 1 < ps.length) ∧ O' = O ∧ ∃ x, e = [some (.tup (ws.map W.d)), some (.lst (ps.map rowD)), some (.lst ((List.range ps.length).map (dueD ws ps))), x, none]) ?_ ?_ _ _ _ ⟨fun i hi => ?_, rfl, none, rfl⟩
  · rintro i rest e O' ⟨hi, rfl, x, rfl⟩ nx hn
    have hi1 := hi i (by simp)
    obtain ⟨p, hp⟩ : ∃ p, ps[i + 1]? = some p := ⟨_, List.getElem?_eq_getElem hi1⟩
    walk_at "sc"
    rw [dueAt i _ (by omega) (by omega), plcAt (i + 1) _ p (by omega) hp]
    refine ⟨ws, dueC ws ps i, p, rfl, hl, hw, okr _ p hp, len1 i, ?_⟩
    rw [dueAt (i + 1) _ (by omega) hi1]
    refine ⟨_, _, rfl, counted_due hp hw, ?_⟩
    simp only [Bool.not_true]
    exact hn _ _ ⟨fun j hj => hi j (by simp [hj]), rfl, _, rfl⟩
  · rintro e O' ⟨_, rfl, x, rfl⟩
    walk_at "sc"
    exact h
  · have := List.mem_range.mp hi
    omega
end Lk18
namespace Lk18
open PySem PySem.Spec PyProof.Rows L2 SC
local macro_rules | `(tactic| walk_at "sc") => `(tactic| simp only [dThen, dSet, dRet, dCall, dCons, dNil, dVar, dC, dCB, dComp, dZip, dSeq, dOp, dIf, dB, dIfE, dNot, dAnd, dOr, dAndV, dOrV, dNotV, dSkip, dExpr, dFor, dApp, dTup, dLst, dLstO, dUn, dPar, dPar3, dAsg, dFrz, frzD, dSetIx, dSl, dPart, dPart0, dRng1, dRng2, dZip3, dEnum, dChain, dNm, dTg, dGCons, dGNil, dYes, dI0, dI, dU, dEqS, eqS, dIsN, isNon, dAddA, dIn, rIxD, rLenD, rBools, rAbsD, rIntD, rTwo, rTupD, rTupX, rIsiD, tyD,
  startD, List.map_cons, List.map_nil, List.length_cons, List.length_nil, Nat.reduceAdd, Nat.reduceSub, List.replicate_succ, List.replicate_zero, List.cons_append, List.nil_append, List.append_nil,
  List.getElem?_cons_zero, List.getElem?_cons_succ, List.set_cons_zero, List.set_cons_succ, wipeD, atI_0, atI_1, atI_2, atI_3, atI_4, oset_same, oset_oset, true_and, and_true, ix5])
def lineP : List Row := [[0], [1], [1], [2], [0], [1], [1], [1]]
def oneA : Area := [[(1, 1)]]
def twoA : Area := [[(2, 2)]]
def ws1 : List W := [.answered oneA twoA 2, .answered oneA twoA 3, .within twoA 3, .again twoA 3]
def ws2 : List W := [.ahead oneA twoA, .ahead twoA oneA, .never [[(7, 9)]], .within [[(5, 5)]] 30]
theorem okA1 {q : Int × Int} : okA [[q]] := ⟨by show 1 ≤ 1000; decide, fun b hb => by rw [List.mem_singleton.mp hb]; show 1 ≤ 1000; decide⟩
theorem okl : okP lineP := ⟨by decide, by decide, by unfold okR; decide⟩
theorem ok1 : ∀ w ∈ ws1, w.ok := by
  intro w hw
  simp only [ws1, List.mem_cons, List.not_mem_nil, or_false] at hw
  rcases hw with rfl | rfl | rfl | rfl
  · exact ⟨okA1, okA1, by decide, by decide⟩
  · exact ⟨okA1, okA1, by decide, by decide⟩
  · exact ⟨okA1, by decide, by decide⟩
  · exact ⟨okA1, by decide, by decide⟩
theorem ok2 : ∀ w ∈ ws2, w.ok := by
  intro w hw
  simp only [ws2, List.mem_cons, List.not_mem_nil, or_false] at hw
  rcases hw with rfl | rfl | rfl | rfl
  · exact ⟨okA1, okA1⟩
  · exact ⟨okA1, okA1⟩
  · exact okA1
  · exact ⟨okA1, by decide, by decide⟩
theorem ws1_d : D.tup (ws1.map W.d) = .tup [.tup [.str "answered", areaD oneA, areaD twoA, .int 2], .tup [.str "answered", areaD oneA, areaD twoA, .int 3], .tup [.str "within", areaD twoA, .int 3], .tup [.str "again", areaD twoA, .int 3]] := rfl
theorem ws2_d : D.tup (ws2.map W.d) = .tup [.tup [.str "ahead", areaD oneA, areaD twoA], .tup [.str "ahead", areaD twoA, areaD oneA], .tup [.str "never", areaD [[(7, 9)]]], .tup [.str "within", areaD [[(5, 5)]], .int 30]] := rfl
theorem rd__law_are_known_right : ∀ ds O (kk : D → OH → Prop), sp__law_are_known_right ds O kk → bd__law_are_known_right { nx := fun _ O' => kk .non O', rt := kk } (startD ["line", "wishes", "more", "one", "two"] ds) O := by
  rintro ds O kk ⟨rfl, h⟩
  unfold bd__law_are_known_right
  have b1 : begunC ws1 [2] = [some 0, some 0, some (-1), some 0] := by decide
  have b2 : begunC ws2 [2] = [none, some 1, some 0, some 0] := by decide
  refine dThen_by (fun e O' => O = O' ∧ e = [some (.lst (lineP.map rowD)), none, none, none, none]) (fun nx hn => ?_) ?_
  · walk_at "sc"
    exact ⟨by decide, by decide, by decide, by decide, by decide, by decide, by decide, by decide, by decide, hn _ _ ⟨rfl, rfl⟩⟩
  rintro e O' ⟨rfl, rfl⟩
  refine dThen_by (fun e O' => O = O' ∧ e = [some (.lst (lineP.map rowD)), none, none, some (areaD oneA), some (areaD twoA)]) (fun nx hn => ?_) ?_
  · walk_at "sc"
    exact ⟨by decide, by decide, by decide, by decide, by decide, by decide, by decide, hn _ _ ⟨rfl, rfl⟩⟩
  rintro e O' ⟨rfl, rfl⟩
  refine dThen_by (fun e O' => O = O' ∧ e = [some (.lst (lineP.map rowD)), some (.tup (ws1.map W.d)), none, some (areaD oneA), some (areaD twoA)]) (fun nx hn => ?_) ?_
  · walk_at "sc"
    exact ⟨by decide, by decide, by decide, by decide, by decide, hn _ _ ⟨rfl, by rw [ws1_d]⟩⟩
  rintro e O' ⟨rfl, rfl⟩
  refine dThen_by (fun e O' => O = O' ∧ e = [some (.lst (lineP.map rowD)), some (.tup (ws1.map W.d)), some (.tup (ws2.map W.d)), some (areaD oneA), some (areaD twoA)]) (fun nx hn => ?_) ?_
  · walk_at "sc"
    exact ⟨by decide, by decide, by decide, by decide, by decide, by decide, by decide, by decide, by decide, by decide, by decide, hn _ _ ⟨rfl, by rw [ws2_d]; rfl⟩⟩
  rintro e O' ⟨rfl, rfl⟩
  refine dThen_by (fun e O' => O = O' ∧ e = [some (.lst (lineP.map rowD)), some (.tup (ws1.map W.d)), some (.tup (ws2.map W.d)), some (areaD oneA), some (areaD twoA)]) (fun nx hn => ?_) ?_
  · generalize hD1 : D.tup (ws1.map W.d) = D1
    generalize hD2 : D.tup (ws2.map W.d) = D2
    walk_at "sc"
    refine ⟨by decide, ws1, [2], by rw [← hD1]; rfl, by decide, ok1, by unfold okR; decide, by decide, begunC ws1 [2], _, rfl, b1, ?_⟩
    simp only [Bool.not_true]
    refine ⟨by decide, ws2, [2], by rw [← hD2]; rfl, by decide, ok2, by unfold okR; decide, by decide, begunC ws2 [2], _, rfl, b2, ?_⟩
    simp only [Bool.not_true]
    exact hn _ _ ⟨rfl, by rw [hD1, hD2]⟩
  rintro e O' ⟨rfl, rfl⟩
  generalize hD1 : D.tup (ws1.map W.d) = D1
  generalize hD2 : D.tup (ws2.map W.d) = D2
  walk_at "sc"
  exact ⟨ws1, lineP, by rw [← hD1], by decide, ok1, okl, ws2, lineP, by rw [← hD2], by decide, ok2, okl, by decide, [], lineP, rfl, by decide, fun _ h => (nomatch h), okl, h⟩
end Lk18
namespace Lk18
open PySem PySem.Spec PyProof.Rows L2 SC
local macro_rules | `(tactic| walk_at "sc") => `(tactic| simp only [dThen, dSet, dRet, dCall, dCons, dNil, dVar, dC, dCB, dComp, dZip, dSeq, dOp, dIf, dB, dIfE, dNot, dAnd, dOr, dAndV, dOrV, dNotV, dSkip, dExpr, dFor, dApp, dTup, dLst, dLstO, dUn, dPar, dPar3, dAsg, dFrz, frzD, dSetIx, dSl, dPart, dPart0, dRng1, dRng2, dZip3, dEnum, dChain, dNm, dTg, dGCons, dGNil, dYes, dI0, dI, dU, dEqS, eqS, dIsN, isNon, dAddA, dIn, rIxD, rLenD, rBools, rAbsD, rIntD, rTwo, rTupD, rTupX, rIsiD, tyD,
  startD, List.map_cons, List.map_nil, List.length_cons, List.length_nil, Nat.reduceAdd, Nat.reduceSub, List.replicate_succ, List.replicate_zero, List.cons_append, List.nil_append, List.append_nil,
  List.getElem?_cons_zero, List.getElem?_cons_succ, List.set_cons_zero, List.set_cons_succ, wipeD, atI_0, atI_1, atI_2, atI_3, atI_4, oset_same, oset_oset, true_and, and_true, ix5])
theorem rd_law : ∀ ds O (kk : D → OH → Prop), sp_law ds O kk → bd_law { nx := fun _ O' => kk .non O', rt := kk } (startD ["script", "hand", "turn", "axes", "wishes", "again"] ds) O := by
  rintro ds O kk ⟨ns, rfl, hl, h⟩
  unfold bd_law
  refine dThen_by (fun e O' => ∃ p hd, HandOk hd ∧ O' p = some hd ∧ e = [some (.fz (ns.map .int)), some (.own p), none, none, none, none]) (fun nx hn => ?_) ?_
  · walk_at "sc"
    exact ⟨ns, rfl, hl, fun p hd hp hh => hn _ _ ⟨p, hd, hh, oset_same, rfl⟩⟩
  rintro e O1 ⟨p, hd, hh, hO, rfl⟩
  refine dThen_by (fun e O' => O1 = O' ∧ e = [some (.fz (ns.map .int)), some (.own p), none, none, none, none]) (fun nx hn => ?_) ?_
  · walk_at "sc"
    refine ⟨rfl, ?_⟩
    simp only [Bool.not_true]
    exact hn _ _ ⟨rfl, rfl⟩
  rintro e O2 ⟨rfl, rfl⟩
  refine dThen_by (fun _ _ => True) (fun nx hn => ?_) ?_
  · walk_at "sc"
    refine ⟨⟨by decide, by decide⟩, ?_⟩
    unfold rngD
    refine dLoop_ind (α := Nat) (fun i => .int (0 + (i : Int))) (fun rest e O' => ∃ (h' : List D) (x y z w : Option D), HandOk h' ∧ e = [some (.fz (ns.map .int)), some (.own p), x, y, z, w] ∧ O' = oset O1 p h') ?_ (fun e O' _ => hn _ _ trivial) _ _ _ ⟨hd, none, none, none, none, hh, rfl, (oset_id hO).symm⟩
    rintro i rest e O' ⟨h', x, y, z, w, hh', rfl, rfl⟩ nx hn
    walk_at "sc"
    refine ⟨p, h', 3, rfl, oset_same, hh', by decide, by decide, fun n h1 n0 n3 hh1 => ?_⟩
    walk_at "sc"
    refine ⟨by decide, p, h1, _, rfl, oset_same, hh1, by simp, by simp, fun d hd h2 hh2 => ?_⟩
    have hd : ∃ v : Int, d = .int v ∧ 0 ≤ v ∧ v ≤ 4 := by
      simp only [List.mem_cons, List.not_mem_nil, or_false] at hd
      rcases hd with rfl | rfl | rfl <;> exact ⟨_, rfl, by decide, by decide⟩
    obtain ⟨v, rfl, v0, v4⟩ := hd
    walk_at "sc"
    refine ⟨⟨by omega, by omega⟩, by rw [rngD_length]; exact small_len (by omega), ?_⟩
    refine dAcc_inv (fun O' => ∃ h', HandOk h' ∧ O' = oset O1 p h') (fun y => ∃ w : W, y = w.d ∧ w.ok) _ _ _ ?_ ⟨h2, hh2, rfl⟩ ?_
    · rintro d _ O' k' ⟨h', hh', rfl⟩ hk'
      walk_at "sc"
      exact ⟨p, h', _, rfl, oset_same, hh', by omega, by omega, fun w h3 hw hh3 => hk' _ _ ⟨w, rfl, hw⟩ ⟨h3, hh3, by rw [oset_oset]⟩⟩
    rintro ys O' hy hl ⟨h3, hh3, rfl⟩
    obtain ⟨ws, rfl, hl2, hw⟩ := all_map hy
    rw [rngD_length] at hl
    rw [List.nil_append]
    refine ⟨by decide, p, h3, _, rfl, oset_same, hh3, by simp, by simp, fun d hd h4 hh4 => ?_⟩
    have hd : ∃ v : Int, d = .int v ∧ 0 ≤ v ∧ v ≤ 100 := by
      simp only [List.mem_cons, List.not_mem_nil, or_false] at hd
      rcases hd with rfl | rfl | rfl | rfl <;> exact ⟨_, rfl, by decide, by decide⟩
    obtain ⟨u, rfl, u0, u4⟩ := hd
    rw [oset_oset]
    refine ⟨p, h4, _, _, rfl, oset_same, hh4, by omega, by omega, u0, u4, fun ps h5 op hh5 => ?_⟩
    rw [oset_oset]
    rw [List.length_map] at hl hl2
    refine ⟨ws, ps, rfl, by omega, hw, op, ?_⟩
    simp only [Bool.not_true]
    exact hn _ _ ⟨h5, _, _, _, _, hh5, rfl, rfl⟩
  · rintro e O' _
    walk_at "sc"
    exact h _
end Lk18
namespace Lk18
open PySem PySem.Spec PyProof.Rows L2 SC
/-! ### each def keeps its promise -/
section
variable {P : Program} {w : World} {K : PySem.W.Frag} {mg : Str → Option Value} {base : Heap}
theorem ok_in_box (T : Tx K mg) : FnOk P w K mg base CX0 1 T.a_in_box T.d_in_box ["box", "place"] (upSp K sp_in_box) :=
  okD T.f_in_box sc_in_box ln_in_box fun cdv A outer s H E hr => ⟨bd_in_box, pbd_one (psd_ret (pd_callB (cr_all rfl) cd_bools (by rfl) T.z_all boot_all (pad_cons (pd_lc (own := [("item", 2), ("low", 3), ("high", 4)]) rfl sc_in_box.nd (pid_zip (by rfl) T.z_zip (pd_v 1) (pd_v 0)) (blkOk_by (by dsimp only [cxOf, Cx.nox, Cx.wish, Cx.blk, compEnvC, envOfC, relabel_S]; decide +kernel)) (by decide) (fun _ _ _ _ _ => pgd_tup (K := K) rfl (pgds_cons (pgd_name (i := 2) sc_in_box.nd rfl (by first | exact .inl rfl | exact .inr rfl)) (pgds_cons (pgd_tup (K := K) rfl (pgds_cons (pgd_name (i := 3) sc_in_box.nd rfl (by first | exact .inl rfl | exact .inr rfl)) (pgds_cons (pgd_name (i := 4) sc_in_box.nd rfl (by first | exact .inl rfl | exact .inr rfl)) (pgds_nil)))) (pgds_nil)))) (fun _ _ _ _ _ => ptsd_nil) (fun _ _ _ _ _ => pd_lele (pd_v 3) (pd_v 2) (pd_v 4))) (pad_nil)))), rd_in_box⟩
theorem ok_in_area (T : Tx K mg) : FnOk P w K mg base CX0 2 T.a_in_area T.d_in_area ["area", "place"] (upSp K sp_in_area) :=
  okD T.f_in_area sc_in_area ln_in_area fun cdv A outer s H E hr => ⟨bd_in_area, pbd_one (psd_ret (pd_callB (cr_any rfl) cd_bools (by rfl) T.z_any boot_any (pad_cons (pd_lc (own := [("box", 2)]) rfl sc_in_area.nd (pid_seq (pd_v 0)) (blkOk_by (by dsimp only [cxOf, Cx.nox, Cx.wish, Cx.blk, compEnvC, envOfC, relabel_S]; decide +kernel)) (by decide) (fun _ _ _ _ _ => pgd_name (i := 2) sc_in_area.nd rfl (by first | exact .inl rfl | exact .inr rfl)) (fun _ _ _ _ _ => ptsd_nil) (fun _ _ _ _ _ => pd_callF (ok_in_box T) (hr.mono (by decide)) (by rfl) T.m_in_box T.f_in_box.kp T.b_in_box (pad_cons (pd_v 2) (pad_cons (pd_v 1) (pad_nil))))) (pad_nil)))), rd_in_area⟩
theorem ok_marks (T : Tx K mg) : FnOk P w K mg base CX0 3 T.a_marks T.d_marks ["wishes", "place"] (upSp K sp_marks) :=
  okD T.f_marks sc_marks ln_marks fun cdv A outer s H E hr => ⟨bd_marks, pbd_cons (psd_set (i := 2) sc_marks.nd rfl (by first | exact .inl rfl | exact .inr rfl) (pd_lstO (pad_nil))) (pbd_cons (psd_for PassesOwn.never rfl (pid_seq (pd_v 0)) (pgd_name (i := 3) sc_marks.nd rfl (by first | exact .inl rfl | exact .inr rfl)) (pbd_cons (psd_set (i := 4) sc_marks.nd rfl (by first | exact .inl rfl | exact .inr rfl) (pd_and (pd_in (pd_ix ix_seq od_ix (pd_v 3) (pd_int)) (pd_c (pe_glob (v := .ref T.a_WITH_OTHER) (by rfl) T.m_WITH_OTHER rfl) T.r_WITH_OTHER)) (pd_one (pd_callF (ok_in_area T) (hr.mono (by decide)) (by rfl) T.m_in_area T.f_in_area.kp T.b_in_area (pad_cons (pd_ix ix_seq od_ix (pd_v 3) (pd_int)) (pad_cons (pd_v 1) (pad_nil))))))) (pbd_one (psd_app (pd_v 2) (pd_tup (pad_cons (pd_callF (ok_in_area T) (hr.mono (by decide)) (by rfl) T.m_in_area T.f_in_area.kp T.b_in_area (pad_cons (pd_ix ix_seq od_ix (pd_v 3) (pd_int)) (pad_cons (pd_v 1) (pad_nil)))) (pad_cons (pd_v 4) (pad_nil)))))))) (pbd_one (psd_ret (pd_tupleX (by rfl) T.z_tuple (pd_v 2))))), rd_marks⟩
theorem ok_ahead_count (T : Tx K mg) : FnOk P w K mg base CX0 1 T.a_ahead_count T.d_ahead_count ["inside", "other"] (upSp K sp_ahead_count) :=
  okD T.f_ahead_count sc_ahead_count ln_ahead_count fun cdv A outer s H E hr => ⟨bd_ahead_count, pbd_cons (psd_if (ptd_val (pd_v 0)) (pbd_one (psd_ret (pd_int))) (pbd_nil)) (pbd_one (psd_ret (pd_ifE (ptd_val (pd_v 1)) (pd_non) (pd_int)))), rd_ahead_count⟩
theorem ok_count_at_first (T : Tx K mg) : FnOk P w K mg base CX0 2 T.a_count_at_first T.d_count_at_first ["wish", "inside", "other"] (upSp K sp_count_at_first) :=
  okD T.f_count_at_first sc_count_at_first ln_count_at_first fun cdv A outer s H E hr => ⟨bd_count_at_first, pbd_cons (psd_set (i := 3) sc_count_at_first.nd rfl (by first | exact .inl rfl | exact .inr rfl) (pd_ix ix_seq od_ix (pd_v 0) (pd_int))) (pbd_cons (psd_if (ptd_eq (pd_v 3) (pd_str)) (pbd_one (psd_ret (pd_ifE (ptd_val (pd_v 1)) (pd_non) (pd_int)))) (pbd_nil)) (pbd_cons (psd_if (ptd_eq (pd_v 3) (pd_str)) (pbd_one (psd_ret (pd_ifE (ptd_val (pd_v 1)) (pd_neg (pd_int)) (pd_int)))) (pbd_nil)) (pbd_cons (psd_if (ptd_eq (pd_v 3) (pd_str)) (pbd_one (psd_ret (pd_ifE (ptd_w (pwd_and (ptd_val (pd_v 1)) (pwd_and1 (ptd_not (ptd_val (pd_v 2)))))) (pd_int) (pd_int)))) (pbd_nil)) (pbd_cons (psd_if (ptd_eq (pd_v 3) (pd_str)) (pbd_one (psd_ret (pd_callF (ok_ahead_count T) (hr.mono (by decide)) (by rfl) T.m_ahead_count T.f_ahead_count.kp T.b_ahead_count (pad_cons (pd_v 1) (pad_cons (pd_v 2) (pad_nil)))))) (pbd_nil)) (pbd_one (psd_ret (pd_ifE (ptd_val (pd_v 1)) (pd_int) (pd_int)))))))), rd_count_at_first⟩
theorem ok_unless_above (T : Tx K mg) : FnOk P w K mg base CX0 1 T.a_unless_above T.d_unless_above ["count", "most"] (upSp K sp_unless_above) :=
  okD T.f_unless_above sc_unless_above ln_unless_above fun cdv A outer s H E hr => ⟨bd_unless_above, pbd_one (psd_ret (pd_ifE (ptd_gt (pd_v 0) (pd_v 1)) (pd_non) (pd_v 0))), rd_unless_above⟩
theorem ok_next_waiting (T : Tx K mg) : FnOk P w K mg base CX0 2 T.a_next_waiting T.d_next_waiting ["wish", "count", "inside", "other"] (upSp K sp_next_waiting) :=
  okD T.f_next_waiting sc_next_waiting ln_next_waiting fun cdv A outer s H E hr => ⟨bd_next_waiting, pbd_cons (psd_if (ptd_val (pd_v 3)) (pbd_one (psd_ret (pd_int))) (pbd_nil)) (pbd_cons (psd_if (ptd_gt (pd_v 1) (pd_int)) (pbd_one (psd_ret (pd_callF (ok_unless_above T) (hr.mono (by decide)) (by rfl) T.m_unless_above T.f_unless_above.kp T.b_unless_above (pad_cons (pd_addA (pd_v 1) (pd_int)) (pad_cons (pd_ix ix_seq od_ix (pd_v 0) (pd_int)) (pad_nil)))))) (pbd_nil)) (pbd_one (psd_ret (pd_ifE (ptd_val (pd_v 2)) (pd_int) (pd_int))))), rd_next_waiting⟩
theorem ok_next_count (T : Tx K mg) : FnOk P w K mg base CX0 3 T.a_next_count T.d_next_count ["wish", "count", "inside", "other"] (upSp K sp_next_count) :=
  okD T.f_next_count sc_next_count ln_next_count fun cdv A outer s H E hr => ⟨bd_next_count, pbd_cons (psd_set (i := 4) sc_next_count.nd rfl (by first | exact .inl rfl | exact .inr rfl) (pd_ix ix_seq od_ix (pd_v 0) (pd_int))) (pbd_cons (psd_if (ptd_is (pd_v 1) (pd_non)) (pbd_one (psd_ret (pd_non))) (pbd_nil)) (pbd_cons (psd_if (ptd_eq (pd_v 4) (pd_str)) (pbd_one (psd_ret (pd_ifE (ptd_val (pd_v 2)) (pd_non) (pd_int)))) (pbd_nil)) (pbd_cons (psd_if (ptd_eq (pd_v 4) (pd_str)) (pbd_one (psd_ret (pd_ifE (ptd_eq (pd_v 1) (pd_int)) (pd_int) (pd_callF (ok_ahead_count T) (hr.mono (by decide)) (by rfl) T.m_ahead_count T.f_ahead_count.kp T.b_ahead_count (pad_cons (pd_v 2) (pad_cons (pd_v 3) (pad_nil))))))) (pbd_nil)) (pbd_cons (psd_if (ptd_eq (pd_v 4) (pd_str)) (pbd_cons (psd_if (ptd_w (pwd_or (ptd_val (pd_v 2)) (pwd_or1 (ptd_eq (pd_v 1) (pd_neg (pd_int)))))) (pbd_one (psd_ret (pd_neg (pd_int)))) (pbd_nil)) (pbd_one (psd_ret (pd_callF (ok_unless_above T) (hr.mono (by decide)) (by rfl) T.m_unless_above T.f_unless_above.kp T.b_unless_above (pad_cons (pd_addA (pd_v 1) (pd_int)) (pad_cons (pd_sub (pd_ix ix_seq od_ix (pd_v 0) (pd_int)) (pd_int)) (pad_nil))))))) (pbd_nil)) (pbd_cons (psd_if (ptd_eq (pd_v 4) (pd_str)) (pbd_one (psd_ret (pd_callF (ok_next_waiting T) (hr.mono (by decide)) (by rfl) T.m_next_waiting T.f_next_waiting.kp T.b_next_waiting (pad_cons (pd_v 0) (pad_cons (pd_v 1) (pad_cons (pd_v 2) (pad_cons (pd_v 3) (pad_nil)))))))) (pbd_nil)) (pbd_one (psd_ret (pd_ifE (ptd_val (pd_v 2)) (pd_int) (pd_callF (ok_unless_above T) (hr.mono (by decide)) (by rfl) T.m_unless_above T.f_unless_above.kp T.b_unless_above (pad_cons (pd_addA (pd_v 1) (pd_int)) (pad_cons (pd_ix ix_seq od_ix (pd_v 0) (pd_int)) (pad_nil)))))))))))), rd_next_count⟩
theorem ok_begun_by (T : Tx K mg) : FnOk P w K mg base CX0 3 T.a_begun_by T.d_begun_by ["wishes", "marked"] (upSp K sp_begun_by) :=
  okD T.f_begun_by sc_begun_by ln_begun_by fun cdv A outer s H E hr => ⟨bd_begun_by, pbd_one (psd_ret (pd_tuple (by rfl) T.z_tuple (pd_lc (own := [("wish", 2), ("inside", 3), ("other", 4)]) rfl sc_begun_by.nd (pid_zip (by rfl) T.z_zip (pd_v 0) (pd_v 1)) (blkOk_by (by dsimp only [cxOf, Cx.nox, Cx.wish, Cx.blk, compEnvC, envOfC, relabel_S]; decide +kernel)) (by decide) (fun _ _ _ _ _ => pgd_tup (K := K) rfl (pgds_cons (pgd_name (i := 2) sc_begun_by.nd rfl (by first | exact .inl rfl | exact .inr rfl)) (pgds_cons (pgd_tup (K := K) rfl (pgds_cons (pgd_name (i := 3) sc_begun_by.nd rfl (by first | exact .inl rfl | exact .inr rfl)) (pgds_cons (pgd_name (i := 4) sc_begun_by.nd rfl (by first | exact .inl rfl | exact .inr rfl)) (pgds_nil)))) (pgds_nil)))) (fun _ _ _ _ _ => ptsd_nil) (fun _ _ _ _ _ => pd_callF (ok_count_at_first T) (hr.mono (by decide)) (by rfl) T.m_count_at_first T.f_count_at_first.kp T.b_count_at_first (pad_cons (pd_v 2) (pad_cons (pd_v 3) (pad_cons (pd_v 4) (pad_nil)))))))), rd_begun_by⟩
theorem ok_counted_by (T : Tx K mg) : FnOk P w K mg base CX0 4 T.a_counted_by T.d_counted_by ["wishes", "counts", "marked"] (upSp K sp_counted_by) :=
  okD T.f_counted_by sc_counted_by ln_counted_by fun cdv A outer s H E hr => ⟨bd_counted_by, pbd_cons (psd_set (i := 3) sc_counted_by.nd rfl (by first | exact .inl rfl | exact .inr rfl) (pd_lstO (pad_nil))) (pbd_cons (psd_for PassesOwn.never rfl (pid_zip3 (by rfl) T.z_zip (pd_v 0) (pd_v 1) (pd_v 2)) (pgd_tup (K := K) rfl (pgds_cons (pgd_name (i := 4) sc_counted_by.nd rfl (by first | exact .inl rfl | exact .inr rfl)) (pgds_cons (pgd_name (i := 5) sc_counted_by.nd rfl (by first | exact .inl rfl | exact .inr rfl)) (pgds_cons (pgd_tup (K := K) rfl (pgds_cons (pgd_name (i := 6) sc_counted_by.nd rfl (by first | exact .inl rfl | exact .inr rfl)) (pgds_cons (pgd_name (i := 7) sc_counted_by.nd rfl (by first | exact .inl rfl | exact .inr rfl)) (pgds_nil)))) (pgds_nil))))) (pbd_one (psd_app (pd_v 3) (pd_callF (ok_next_count T) (hr.mono (by decide)) (by rfl) T.m_next_count T.f_next_count.kp T.b_next_count (pad_cons (pd_v 4) (pad_cons (pd_v 5) (pad_cons (pd_v 6) (pad_cons (pd_v 7) (pad_nil))))))))) (pbd_one (psd_ret (pd_tupleX (by rfl) T.z_tuple (pd_v 3))))), rd_counted_by⟩
theorem ok_begun (T : Tx K mg) : FnOk P w K mg base CX0 4 T.a_begun T.d_begun ["wishes", "place"] (upSp K sp_begun) :=
  okD T.f_begun sc_begun ln_begun fun cdv A outer s H E hr => ⟨bd_begun, pbd_one (psd_ret (pd_callF (ok_begun_by T) (hr.mono (by decide)) (by rfl) T.m_begun_by T.f_begun_by.kp T.b_begun_by (pad_cons (pd_v 0) (pad_cons (pd_callF (ok_marks T) (hr.mono (by decide)) (by rfl) T.m_marks T.f_marks.kp T.b_marks (pad_cons (pd_v 0) (pad_cons (pd_v 1) (pad_nil)))) (pad_nil))))), rd_begun⟩
theorem ok_counted (T : Tx K mg) : FnOk P w K mg base CX0 5 T.a_counted T.d_counted ["wishes", "counts", "place"] (upSp K sp_counted) :=
  okD T.f_counted sc_counted ln_counted fun cdv A outer s H E hr => ⟨bd_counted, pbd_one (psd_ret (pd_callF (ok_counted_by T) (hr.mono (by decide)) (by rfl) T.m_counted_by T.f_counted_by.kp T.b_counted_by (pad_cons (pd_v 0) (pad_cons (pd_v 1) (pad_cons (pd_callF (ok_marks T) (hr.mono (by decide)) (by rfl) T.m_marks T.f_marks.kp T.b_marks (pad_cons (pd_v 0) (pad_cons (pd_v 2) (pad_nil)))) (pad_nil)))))), rd_counted⟩
theorem ok__law_hand (T : Tx K mg) : FnOk P w K mg base CX0 1 T.a__law_hand T.d__law_hand ["script"] (upSp K sp__law_hand) :=
  okD T.f__law_hand sc__law_hand ln__law_hand fun cdv A outer s H E hr => ⟨bd__law_hand, pbd_cons (psd_setLc (own := [("cell", 2)]) (i := 1) rfl sc__law_hand.nd rfl rfl (sw_true rfl rfl rfl (by decide +kernel)) (pid_seq (pd_slice (pd_v 0) (pod_none) (pod_some (pd_int)))) (blkOk_by (by dsimp only [cxOf, Cx.nox, Cx.wish, Cx.blk, compEnvC, envOfC, relabel_S]; decide +kernel)) (by decide) (fun _ _ _ _ _ => pgd_name (i := 2) sc__law_hand.nd rfl (by first | exact .inl rfl | exact .inr rfl)) (fun _ _ _ _ _ => ptsd_nil) (fun _ _ _ _ _ => pd_callB call_abs cd_abs (by rfl) T.z_abs boot_abs (pad_cons (pd_callTy call_int1 cd_int (by rfl) T.z_int boot_int (pad_cons (pd_v 2) (pad_nil))) (pad_nil)))) (pbd_one (psd_ret (pd_lstO (pad_cons (pd_v 1) (pad_cons (pd_int) (pad_cons (pd_int) (pad_cons (pd_addA (pd_int) (pd_mul (pd_int) (pd_callB call_len_seq cd_len (by rfl) T.z_len boot_len (pad_cons (pd_v 1) (pad_nil))))) (pad_cons (pd_int) (pad_nil))))))))), rd__law_hand⟩
theorem ok__law_draw (T : Tx K mg) : FnOk P w K mg base CX0 1 T.a__law_draw T.d__law_draw ["hand", "many"] (upSp K sp__law_draw) :=
  okD T.f__law_draw sc__law_draw ln__law_draw fun cdv A outer s H E hr => ⟨bd__law_draw, pbd_cons (psd_if (ptd_w (pwd_and (ptd_eq (pd_ix ix_seq od_ix (pd_v 0) (pd_int)) (pd_int)) (pwd_and1 (ptd_lt (pd_ix ix_seq od_ix (pd_v 0) (pd_int)) (pd_callB call_len_seq cd_len (by rfl) T.z_len boot_len (pad_cons (pd_ix ix_seq od_ix (pd_v 0) (pd_int)) (pad_nil))))))) (pbd_cons (psd_set (i := 3) sc__law_draw.nd rfl (by first | exact .inl rfl | exact .inr rfl) (pd_ix ix_seq od_ix (pd_ix ix_seq od_ix (pd_v 0) (pd_int)) (pd_ix ix_seq od_ix (pd_v 0) (pd_int)))) (pbd_cons (psd_setix (pd_v 0) (pd_int) (pd_addA (pd_ix ix_seq od_ix (pd_v 0) (pd_int)) (pd_int))) (pbd_cons (psd_setix (pd_v 0) (pd_int) (pd_mod (pd_callTy call_int1 cd_int (by rfl) T.z_int boot_int (pad_cons (pd_addA (pd_addA (pd_mul (pd_ix ix_seq od_ix (pd_v 0) (pd_int)) (pd_int)) (pd_v 3)) (pd_int)) (pad_nil))) (pd_int))) (pbd_one (psd_if (ptd_ge (pd_v 3) (pd_pow (pd_int) (pd_int))) (pbd_one (psd_setix (pd_v 0) (pd_int) (pd_v 3))) (pbd_nil)))))) (pbd_nil)) (pbd_cons (psd_if (ptd_gt (pd_ix ix_seq od_ix (pd_v 0) (pd_int)) (pd_int)) (pbd_cons (psd_set (i := 4) sc__law_draw.nd rfl (by first | exact .inl rfl | exact .inr rfl) (pd_mod (pd_callTy call_int1 cd_int (by rfl) T.z_int boot_int (pad_cons (pd_ix ix_seq od_ix (pd_v 0) (pd_int)) (pad_nil))) (pd_v 1))) (pbd_cons (psd_setix (pd_v 0) (pd_int) (pd_fdiv (pd_ix ix_seq od_ix (pd_v 0) (pd_int)) (pd_v 1))) (pbd_one (psd_ret (pd_v 4))))) (pbd_nil)) (pbd_cons (psd_setix (pd_v 0) (pd_int) (pd_addA (pd_ix ix_seq od_ix (pd_v 0) (pd_int)) (pd_int))) (pbd_cons (psd_set (i := 2) sc__law_draw.nd rfl (by first | exact .inl rfl | exact .inr rfl) (pd_mod (pd_callTy call_int1 cd_int (by rfl) T.z_int boot_int (pad_cons (pd_mul (pd_callTy call_int1 cd_int (by rfl) T.z_int boot_int (pad_cons (pd_addA (pd_ix ix_seq od_ix (pd_v 0) (pd_int)) (pd_mul (pd_int) (pd_ix ix_seq od_ix (pd_v 0) (pd_int)))) (pad_nil))) (pd_int)) (pad_nil))) (pd_int))) (pbd_cons (psd_set (i := 2) sc__law_draw.nd rfl (by first | exact .inl rfl | exact .inr rfl) (pd_mod (pd_callTy call_int1 cd_int (by rfl) T.z_int boot_int (pad_cons (pd_mul (pd_v 2) (pd_addA (pd_fdiv (pd_v 2) (pd_int)) (pd_int))) (pad_nil))) (pd_int))) (pbd_cons (psd_set (i := 2) sc__law_draw.nd rfl (by first | exact .inl rfl | exact .inr rfl) (pd_mod (pd_callTy call_int1 cd_int (by rfl) T.z_int boot_int (pad_cons (pd_mul (pd_v 2) (pd_addA (pd_fdiv (pd_v 2) (pd_int)) (pd_int))) (pad_nil))) (pd_int))) (pbd_one (psd_ret (pd_mod (pd_callTy call_int1 cd_int (by rfl) T.z_int boot_int (pad_cons (pd_fdiv (pd_v 2) (pd_int)) (pad_nil))) (pd_v 1))))))))), rd__law_draw⟩
theorem ok__law_some (T : Tx K mg) : FnOk P w K mg base CX0 2 T.a__law_some T.d__law_some ["hand", "things"] (upSp K sp__law_some) :=
  okD T.f__law_some sc__law_some ln__law_some fun cdv A outer s H E hr => ⟨bd__law_some, pbd_one (psd_ret (pd_ix ix_seq od_ix (pd_v 1) (pd_callF (ok__law_draw T) (hr.mono (by decide)) (by rfl) T.m__law_draw T.f__law_draw.kp T.b__law_draw (pad_cons (pd_v 0) (pad_cons (pd_callB call_len_seq cd_len (by rfl) T.z_len boot_len (pad_cons (pd_v 1) (pad_nil))) (pad_nil)))))), rd__law_some⟩
theorem ok__law_in (T : Tx K mg) : FnOk P w K mg base CX0 1 T.a__law_in T.d__law_in ["area", "place"] (upSp K sp__law_in) :=
  okD T.f__law_in sc__law_in ln__law_in fun cdv A outer s H E hr => ⟨bd__law_in, pbd_one (psd_ret (pd_callB (cr_any rfl) cd_bools (by rfl) T.z_any boot_any (pad_cons (pd_lc (own := [("box", 2)]) rfl sc__law_in.nd (pid_seq (pd_v 0)) (blkOk_by (by dsimp only [cxOf, Cx.nox, Cx.wish, Cx.blk, compEnvC, envOfC, relabel_S]; decide +kernel)) (by decide) (fun _ _ _ _ _ => pgd_name (i := 2) sc__law_in.nd rfl (by first | exact .inl rfl | exact .inr rfl)) (fun _ _ _ _ _ => ptsd_nil) (fun _ _ _ _ _ => pd_callB (cr_all rfl) cd_bools (by rfl) T.z_all boot_all (pad_cons (pd_lc (own := [("one", 3), ("low", 4), ("high", 5)]) rfl sc__law_in.nd (pid_zip (by rfl) T.z_zip (pd_v 1) (pd_v 2)) (blkOk_by (by dsimp only [cxOf, Cx.nox, Cx.wish, Cx.blk, compEnvC, envOfC, relabel_S]; decide +kernel)) (by decide) (fun _ _ _ _ _ => pgd_tup (K := K) rfl (pgds_cons (pgd_name (i := 3) sc__law_in.nd rfl (by first | exact .inl rfl | exact .inr rfl)) (pgds_cons (pgd_tup (K := K) rfl (pgds_cons (pgd_name (i := 4) sc__law_in.nd rfl (by first | exact .inl rfl | exact .inr rfl)) (pgds_cons (pgd_name (i := 5) sc__law_in.nd rfl (by first | exact .inl rfl | exact .inr rfl)) (pgds_nil)))) (pgds_nil)))) (fun _ _ _ _ _ => ptsd_nil) (fun _ _ _ _ _ => pd_lele (pd_v 4) (pd_v 3) (pd_v 5))) (pad_nil)))) (pad_nil)))), rd__law_in⟩
theorem ok__law_breaks (T : Tx K mg) : FnOk P w K mg base CX0 2 T.a__law_breaks T.d__law_breaks ["wish", "places", "at"] (upSp K sp__law_breaks) :=
  okD T.f__law_breaks sc__law_breaks ln__law_breaks fun cdv A outer s H E hr => ⟨bd__law_breaks, pbd_cons (psd_par (i := 4) (j := 5) rfl sc__law_breaks.nd rfl rfl (by decide) rfl rfl (pad_cons (pd_ix ix_seq od_ix (pd_v 0) (pd_int)) (pad_cons (pd_lc (own := [("place", 6)]) rfl sc__law_breaks.nd (pid_seq (pd_slice (pd_v 1) (pod_none) (pod_some (pd_addA (pd_v 2) (pd_int))))) (blkOk_by (by dsimp only [cxOf, Cx.nox, Cx.wish, Cx.blk, compEnvC, envOfC, relabel_S]; decide +kernel)) (by decide) (fun _ _ _ _ _ => pgd_name (i := 6) sc__law_breaks.nd rfl (by first | exact .inl rfl | exact .inr rfl)) (fun _ _ _ _ _ => ptsd_nil) (fun _ _ _ _ _ => pd_callF (ok__law_in T) (hr.mono (by decide)) (by rfl) T.m__law_in T.f__law_in.kp T.b__law_in (pad_cons (pd_ix ix_seq od_ix (pd_v 0) (pd_int)) (pad_cons (pd_v 6) (pad_nil))))) (pad_nil))) (by rfl)) (pbd_cons (psd_if (ptd_eq (pd_v 4) (pd_str)) (pbd_one (psd_ret (pd_ix ix_seq od_ix (pd_v 5) (pd_v 2)))) (pbd_nil)) (pbd_cons (psd_if (ptd_eq (pd_v 4) (pd_str)) (pbd_one (psd_ret (pd_and (pd_eq (pd_v 2) (pd_ix ix_seq od_ix (pd_v 0) (pd_int))) (pd_one (pd_not (pd_callB (cr_any rfl) cd_bools (by rfl) T.z_any boot_any (pad_cons (pd_v 5) (pad_nil)))))))) (pbd_nil)) (pbd_cons (psd_if (ptd_eq (pd_v 4) (pd_str)) (pbd_one (psd_ret (pd_and (pd_ge (pd_v 2) (pd_ix ix_seq od_ix (pd_v 0) (pd_int))) (pd_one (pd_not (pd_callB (cr_any rfl) cd_bools (by rfl) T.z_any boot_any (pad_cons (pd_slice (pd_v 5) (pod_some (pd_sub (pd_v 2) (pd_ix ix_seq od_ix (pd_v 0) (pd_int)))) (pod_none)) (pad_nil)))))))) (pbd_nil)) (pbd_cons (psd_setLc (own := [("place", 6)]) (i := 3) rfl sc__law_breaks.nd rfl rfl (sw_true rfl rfl rfl (by decide +kernel)) (pid_seq (pd_slice (pd_v 1) (pod_none) (pod_some (pd_addA (pd_v 2) (pd_int))))) (blkOk_by (by dsimp only [cxOf, Cx.nox, Cx.wish, Cx.blk, compEnvC, envOfC, relabel_S]; decide +kernel)) (by decide) (fun _ _ _ _ _ => pgd_name (i := 6) sc__law_breaks.nd rfl (by first | exact .inl rfl | exact .inr rfl)) (fun _ _ _ _ _ => ptsd_nil) (fun _ _ _ _ _ => pd_callF (ok__law_in T) (hr.mono (by decide)) (by rfl) T.m__law_in T.f__law_in.kp T.b__law_in (pad_cons (pd_ix ix_seq od_ix (pd_v 0) (pd_int)) (pad_cons (pd_v 6) (pad_nil))))) (pbd_cons (psd_if (ptd_eq (pd_v 4) (pd_str)) (pbd_one (psd_ret (pd_and (pd_ix ix_seq od_ix (pd_v 3) (pd_v 2)) (pd_one (pd_not (pd_callB (cr_any rfl) cd_bools (by rfl) T.z_any boot_any (pad_cons (pd_v 5) (pad_nil)))))))) (pbd_nil)) (pbd_one (psd_ret (pd_and (pd_ge (pd_v 2) (pd_ix ix_seq od_ix (pd_v 0) (pd_int))) (pd_and (pd_ix ix_seq od_ix (pd_v 5) (pd_sub (pd_v 2) (pd_ix ix_seq od_ix (pd_v 0) (pd_int)))) (pd_one (pd_not (pd_callB (cr_any rfl) cd_bools (by rfl) T.z_any boot_any (pad_cons (pd_slice (pd_v 3) (pod_some (pd_sub (pd_v 2) (pd_ix ix_seq od_ix (pd_v 0) (pd_int)))) (pod_none)) (pad_nil)))))))))))))), rd__law_breaks⟩
theorem ok__law_box (T : Tx K mg) : FnOk P w K mg base CX0 3 T.a__law_box T.d__law_box ["hand", "axes"] (upSp K sp__law_box) :=
  okD T.f__law_box sc__law_box ln__law_box fun cdv A outer s H E hr => ⟨bd__law_box, pbd_cons (psd_set (i := 2) sc__law_box.nd rfl (by first | exact .inl rfl | exact .inr rfl) (pd_lstO (pad_nil))) (pbd_cons (psd_for PassesOwn.never rfl (pid_range1 (by rfl) T.z_range (pd_v 1)) (pgd_name (i := 3) sc__law_box.nd rfl (by first | exact .inl rfl | exact .inr rfl)) (pbd_cons (psd_set (i := 4) sc__law_box.nd rfl (by first | exact .inl rfl | exact .inr rfl) (pd_callF (ok__law_draw T) (hr.mono (by decide)) (by rfl) T.m__law_draw T.f__law_draw.kp T.b__law_draw (pad_cons (pd_v 0) (pad_cons (pd_int) (pad_nil))))) (pbd_one (psd_app (pd_v 2) (pd_tup (pad_cons (pd_v 4) (pad_cons (pd_addA (pd_v 4) (pd_callF (ok__law_some T) (hr.mono (by decide)) (by rfl) T.m__law_some T.f__law_some.kp T.b__law_some (pad_cons (pd_v 0) (pad_cons (pd_lst (pad_cons (pd_int) (pad_cons (pd_int) (pad_cons (pd_int) (pad_cons (pd_int) (pad_cons (pd_int) (pad_nil))))))) (pad_nil))))) (pad_nil)))))))) (pbd_one (psd_ret (pd_tupleX (by rfl) T.z_tuple (pd_v 2))))), rd__law_box⟩
theorem ok__law_area (T : Tx K mg) : FnOk P w K mg base CX0 4 T.a__law_area T.d__law_area ["hand", "axes"] (upSp K sp__law_area) :=
  okD T.f__law_area sc__law_area ln__law_area fun cdv A outer s H E hr => ⟨bd__law_area, pbd_one (psd_ret (pd_tuple (by rfl) T.z_tuple (pd_lc (own := [("turn", 2)]) rfl sc__law_area.nd (pid_range1 (by rfl) T.z_range (pd_callF (ok__law_some T) (hr.mono (by decide)) (by rfl) T.m__law_some T.f__law_some.kp T.b__law_some (pad_cons (pd_v 0) (pad_cons (pd_lst (pad_cons (pd_int) (pad_cons (pd_int) (pad_cons (pd_int) (pad_cons (pd_int) (pad_cons (pd_int) (pad_cons (pd_int) (pad_cons (pd_int) (pad_nil))))))))) (pad_nil))))) (blkOk_by (by dsimp only [cxOf, Cx.nox, Cx.wish, Cx.blk, compEnvC, envOfC, relabel_S]; decide +kernel)) (by decide) (fun _ _ _ _ _ => pgd_name (i := 2) sc__law_area.nd rfl (by first | exact .inl rfl | exact .inr rfl)) (fun _ _ _ _ _ => ptsd_nil) (fun _ _ _ _ _ => pd_callF (ok__law_box T) (hr.mono (by decide)) (by rfl) T.m__law_box T.f__law_box.kp T.b__law_box (pad_cons (pd_v 0) (pad_cons (pd_v 1) (pad_nil))))))), rd__law_area⟩
theorem ok__law_wish (T : Tx K mg) : FnOk P w K mg base CX0 5 T.a__law_wish T.d__law_wish ["hand", "axes"] (upSp K sp__law_wish) :=
  okD T.f__law_wish sc__law_wish ln__law_wish fun cdv A outer s H E hr => ⟨bd__law_wish, pbd_cons (psd_par3 (i := 3) (j := 4) (l := 5) rfl sc__law_wish.nd rfl rfl rfl (by decide) (by decide) (by decide) rfl rfl rfl (pad_cons (pd_callF (ok__law_area T) (hr.mono (by decide)) (by rfl) T.m__law_area T.f__law_area.kp T.b__law_area (pad_cons (pd_v 0) (pad_cons (pd_v 1) (pad_nil)))) (pad_cons (pd_callF (ok__law_area T) (hr.mono (by decide)) (by rfl) T.m__law_area T.f__law_area.kp T.b__law_area (pad_cons (pd_v 0) (pad_cons (pd_v 1) (pad_nil)))) (pad_cons (pd_callF (ok__law_some T) (hr.mono (by decide)) (by rfl) T.m__law_some T.f__law_some.kp T.b__law_some (pad_cons (pd_v 0) (pad_cons (pd_lst (pad_cons (pd_int) (pad_cons (pd_int) (pad_cons (pd_int) (pad_cons (pd_int) (pad_cons (pd_int) (pad_cons (pd_int) (pad_cons (pd_int) (pad_cons (pd_int) (pad_nil)))))))))) (pad_nil)))) (pad_nil)))) (by rfl)) (pbd_cons (psd_set (i := 2) sc__law_wish.nd rfl (by first | exact .inl rfl | exact .inr rfl) (pd_lst (pad_cons (pd_tup (pad_cons (pd_str) (pad_cons (pd_v 3) (pad_nil)))) (pad_cons (pd_tup (pad_cons (pd_str) (pad_cons (pd_v 3) (pad_cons (pd_v 5) (pad_nil))))) (pad_cons (pd_tup (pad_cons (pd_str) (pad_cons (pd_v 3) (pad_cons (pd_v 4) (pad_cons (pd_v 5) (pad_nil)))))) (pad_cons (pd_tup (pad_cons (pd_str) (pad_cons (pd_v 3) (pad_cons (pd_v 4) (pad_nil))))) (pad_cons (pd_tup (pad_cons (pd_str) (pad_cons (pd_v 3) (pad_cons (pd_v 5) (pad_nil))))) (pad_nil)))))))) (pbd_one (psd_ret (pd_callF (ok__law_some T) (hr.mono (by decide)) (by rfl) T.m__law_some T.f__law_some.kp T.b__law_some (pad_cons (pd_v 0) (pad_cons (pd_v 2) (pad_nil))))))), rd__law_wish⟩
theorem ok__law_places (T : Tx K mg) : FnOk P w K mg base CX0 2 T.a__law_places T.d__law_places ["hand", "axes", "many"] (upSp K sp__law_places) :=
  okD T.f__law_places sc__law_places ln__law_places fun cdv A outer s H E hr => ⟨bd__law_places, pbd_cons (psd_set (i := 3) sc__law_places.nd rfl (by first | exact .inl rfl | exact .inr rfl) (pd_tuple (by rfl) T.z_tuple (pd_lc (own := [("axis", 6)]) rfl sc__law_places.nd (pid_range1 (by rfl) T.z_range (pd_v 1)) (blkOk_by (by dsimp only [cxOf, Cx.nox, Cx.wish, Cx.blk, compEnvC, envOfC, relabel_S]; decide +kernel)) (by decide) (fun _ _ _ _ _ => pgd_name (i := 6) sc__law_places.nd rfl (by first | exact .inl rfl | exact .inr rfl)) (fun _ _ _ _ _ => ptsd_nil) (fun _ _ _ _ _ => pd_callF (ok__law_draw T) (hr.mono (by decide)) (by rfl) T.m__law_draw T.f__law_draw.kp T.b__law_draw (pad_cons (pd_v 0) (pad_cons (pd_int) (pad_nil))))))) (pbd_cons (psd_set (i := 4) sc__law_places.nd rfl (by first | exact .inl rfl | exact .inr rfl) (pd_lstO (pad_cons (pd_v 3) (pad_nil)))) (pbd_cons (psd_for PassesOwn.never rfl (pid_range1 (by rfl) T.z_range (pd_v 2)) (pgd_name (i := 5) sc__law_places.nd rfl (by first | exact .inl rfl | exact .inr rfl)) (pbd_cons (psd_if (ptd_gt (pd_callF (ok__law_draw T) (hr.mono (by decide)) (by rfl) T.m__law_draw T.f__law_draw.kp T.b__law_draw (pad_cons (pd_v 0) (pad_cons (pd_int) (pad_nil)))) (pd_int)) (pbd_one (psd_set (i := 3) sc__law_places.nd rfl (by first | exact .inl rfl | exact .inr rfl) (pd_tuple (by rfl) T.z_tuple (pd_lc (own := [("one", 7)]) rfl sc__law_places.nd (pid_seq (pd_v 3)) (blkOk_by (by dsimp only [cxOf, Cx.nox, Cx.wish, Cx.blk, compEnvC, envOfC, relabel_S]; decide +kernel)) (by decide) (fun _ _ _ _ _ => pgd_name (i := 7) sc__law_places.nd rfl (by first | exact .inl rfl | exact .inr rfl)) (fun _ _ _ _ _ => ptsd_nil) (fun _ _ _ _ _ => pd_callB (call_max2 rfl) cd_two (by rfl) T.z_max boot_max (pad_cons (pd_int) (pad_cons (pd_callB (call_min2 rfl) cd_two (by rfl) T.z_min boot_min (pad_cons (pd_int) (pad_cons (pd_sub (pd_addA (pd_v 7) (pd_callF (ok__law_draw T) (hr.mono (by decide)) (by rfl) T.m__law_draw T.f__law_draw.kp T.b__law_draw (pad_cons (pd_v 0) (pad_cons (pd_int) (pad_nil))))) (pd_int)) (pad_nil)))) (pad_nil)))))))) (pbd_nil)) (pbd_one (psd_app (pd_v 4) (pd_v 3))))) (pbd_one (psd_ret (pd_frz (pd_v 4)))))), rd__law_places⟩
theorem ok__law_count (T : Tx K mg) : FnOk P w K mg base CX0 3 T.a__law_count T.d__law_count ["wish", "places", "at"] (upSp K sp__law_count) :=
  okD T.f__law_count sc__law_count ln__law_count fun cdv A outer s H E hr => ⟨bd__law_count, pbd_cons (psd_if (ptd_val (pd_callB (cr_any rfl) cd_bools (by rfl) T.z_any boot_any (pad_cons (pd_lc (own := [("beat", 9)]) rfl sc__law_count.nd (pid_range1 (by rfl) T.z_range (pd_addA (pd_v 2) (pd_int))) (blkOk_by (by dsimp only [cxOf, Cx.nox, Cx.wish, Cx.blk, compEnvC, envOfC, relabel_S]; decide +kernel)) (by decide) (fun _ _ _ _ _ => pgd_name (i := 9) sc__law_count.nd rfl (by first | exact .inl rfl | exact .inr rfl)) (fun _ _ _ _ _ => ptsd_nil) (fun _ _ _ _ _ => pd_callF (ok__law_breaks T) (hr.mono (by decide)) (by rfl) T.m__law_breaks T.f__law_breaks.kp T.b__law_breaks (pad_cons (pd_v 0) (pad_cons (pd_v 1) (pad_cons (pd_v 9) (pad_nil)))))) (pad_nil)))) (pbd_one (psd_ret (pd_non))) (pbd_nil)) (pbd_cons (psd_asg (pd_tup (pad_cons (pd_ix ix_seq od_ix (pd_v 0) (pd_int)) (pad_cons (pd_lc (own := [("place", 8)]) rfl sc__law_count.nd (pid_seq (pd_slice (pd_v 1) (pod_none) (pod_some (pd_addA (pd_v 2) (pd_int))))) (blkOk_by (by dsimp only [cxOf, Cx.nox, Cx.wish, Cx.blk, compEnvC, envOfC, relabel_S]; decide +kernel)) (by decide) (fun _ _ _ _ _ => pgd_name (i := 8) sc__law_count.nd rfl (by first | exact .inl rfl | exact .inr rfl)) (fun _ _ _ _ _ => ptsd_nil) (fun _ _ _ _ _ => pd_callF (ok__law_in T) (hr.mono (by decide)) (by rfl) T.m__law_in T.f__law_in.kp T.b__law_in (pad_cons (pd_ix ix_seq od_ix (pd_v 0) (pd_int)) (pad_cons (pd_v 8) (pad_nil))))) (pad_nil)))) (pgd_tup (K := K) rfl (pgds_cons (pgd_name (i := 5) sc__law_count.nd rfl (by first | exact .inl rfl | exact .inr rfl)) (pgds_cons (pgd_name (i := 6) sc__law_count.nd rfl (by first | exact .inl rfl | exact .inr rfl)) (pgds_nil))))) (pbd_cons (psd_if (ptd_eq (pd_v 5) (pd_str)) (pbd_one (psd_ret (pd_int))) (pbd_nil)) (pbd_cons (psd_if (ptd_eq (pd_v 5) (pd_str)) (pbd_one (psd_ret (pd_ifE (ptd_val (pd_callB (cr_any rfl) cd_bools (by rfl) T.z_any boot_any (pad_cons (pd_v 6) (pad_nil)))) (pd_neg (pd_int)) (pd_v 2)))) (pbd_nil)) (pbd_cons (psd_if (ptd_eq (pd_v 5) (pd_str)) (pbd_one (psd_ret (pd_callTy call_int1 cd_int (by rfl) T.z_int boot_int (pad_cons (pd_callB (cr_any rfl) cd_bools (by rfl) T.z_any boot_any (pad_cons (pd_v 6) (pad_nil))) (pad_nil))))) (pbd_nil)) (pbd_cons (psd_if (ptd_eq (pd_v 5) (pd_str)) (pbd_cons (psd_set (i := 7) sc__law_count.nd rfl (by first | exact .inl rfl | exact .inr rfl) (pd_int)) (pbd_cons (psd_while PassesOwn.never (ptd_w (pwd_and (ptd_le (pd_v 7) (pd_v 2)) (pwd_and1 (ptd_not (ptd_val (pd_ix ix_seq od_ix (pd_v 6) (pd_sub (pd_v 2) (pd_v 7)))))))) (pbd_one (psd_set (i := 7) sc__law_count.nd rfl (by first | exact .inl rfl | exact .inr rfl) (pd_addA (pd_v 7) (pd_int))))) (pbd_one (psd_ret (pd_v 7))))) (pbd_nil)) (pbd_cons (psd_set (i := 3) sc__law_count.nd rfl (by first | exact .inl rfl | exact .inr rfl) (pd_lc (own := [("place", 8)]) rfl sc__law_count.nd (pid_seq (pd_slice (pd_v 1) (pod_none) (pod_some (pd_addA (pd_v 2) (pd_int))))) (blkOk_by (by dsimp only [cxOf, Cx.nox, Cx.wish, Cx.blk, compEnvC, envOfC, relabel_S]; decide +kernel)) (by decide) (fun _ _ _ _ _ => pgd_name (i := 8) sc__law_count.nd rfl (by first | exact .inl rfl | exact .inr rfl)) (fun _ _ _ _ _ => ptsd_nil) (fun _ _ _ _ _ => pd_callF (ok__law_in T) (hr.mono (by decide)) (by rfl) T.m__law_in T.f__law_in.kp T.b__law_in (pad_cons (pd_ix ix_seq od_ix (pd_v 0) (pd_int)) (pad_cons (pd_v 8) (pad_nil)))))) (pbd_cons (psd_setLc (own := [("beat", 9)]) (i := 4) rfl sc__law_count.nd rfl rfl (sw_true rfl rfl rfl (by decide +kernel)) (pid_range1 (by rfl) T.z_range (pd_addA (pd_v 2) (pd_int))) (blkOk_by (by dsimp only [cxOf, Cx.nox, Cx.wish, Cx.blk, compEnvC, envOfC, relabel_S]; decide +kernel)) (by decide) (fun _ _ _ _ _ => pgd_name (i := 9) sc__law_count.nd rfl (by first | exact .inl rfl | exact .inr rfl)) (fun _ _ _ _ _ => ptsd_one (ptd_w (pwd_and (ptd_val (pd_ix ix_seq od_ix (pd_v 6) (pd_v 9))) (pwd_and1 (ptd_not (ptd_val (pd_callB (cr_any rfl) cd_bools (by rfl) T.z_any boot_any (pad_cons (pd_slice (pd_v 3) (pod_some (pd_v 9)) (pod_none)) (pad_nil))))))))) (fun _ _ _ _ _ => pd_v 9)) (pbd_one (psd_ret (pd_ifE (ptd_gt (pd_callB call_len_seq cd_len (by rfl) T.z_len boot_len (pad_cons (pd_v 4) (pad_nil))) (pd_int)) (pd_addA (pd_sub (pd_v 2) (pd_ix ix_seq od_ix (pd_v 4) (pd_int))) (pd_int)) (pd_int))))))))))), rd__law_count⟩
theorem ok__law_is (T : Tx K mg) : FnOk P w K mg base CX0 1 T.a__law_is T.d__law_is ["told", "due"] (upSp K sp__law_is) :=
  okD T.f__law_is sc__law_is ln__law_is fun cdv A outer s H E hr => ⟨bd__law_is, pbd_cons (psd_if (ptd_w (pwd_or (ptd_not (ptd_val (pd_callB call_isi cd_isi (by rfl) T.z_isinstance boot_isinstance (pad_cons (pd_v 0) (pad_cons (pd_tyc (by rfl) T.z_tuple boot_tuple) (pad_nil)))))) (pwd_or1 (ptd_ne (pd_callB call_len_seq cd_len (by rfl) T.z_len boot_len (pad_cons (pd_v 0) (pad_nil))) (pd_callB call_len_seq cd_len (by rfl) T.z_len boot_len (pad_cons (pd_v 1) (pad_nil))))))) (pbd_one (psd_ret (pd_bl))) (pbd_nil)) (pbd_cons (psd_for PassesOwn.never rfl (pid_zip (by rfl) T.z_zip (pd_v 0) (pd_v 1)) (pgd_tup (K := K) rfl (pgds_cons (pgd_name (i := 2) sc__law_is.nd rfl (by first | exact .inl rfl | exact .inr rfl)) (pgds_cons (pgd_name (i := 3) sc__law_is.nd rfl (by first | exact .inl rfl | exact .inr rfl)) (pgds_nil)))) (pbd_one (psd_if (ptd_w (pwd_or (ptd_is (pd_v 2) (pd_non)) (pwd_or1 (ptd_is (pd_v 3) (pd_non))))) (pbd_one (psd_if (ptd_w (pwd_or (ptd_isnot (pd_v 2) (pd_non)) (pwd_or1 (ptd_isnot (pd_v 3) (pd_non))))) (pbd_one (psd_ret (pd_bl))) (pbd_nil))) (pbd_one (psd_if (ptd_w (pwd_or (ptd_val (pd_callB call_isi cd_isi (by rfl) T.z_isinstance boot_isinstance (pad_cons (pd_v 2) (pad_cons (pd_tyc (by rfl) T.z_bool boot_bool) (pad_nil))))) (pwd_or (ptd_not (ptd_val (pd_callB call_isi cd_isi (by rfl) T.z_isinstance boot_isinstance (pad_cons (pd_v 2) (pad_cons (pd_tyc (by rfl) T.z_int boot_int) (pad_nil)))))) (pwd_or1 (ptd_ne (pd_v 2) (pd_v 3)))))) (pbd_one (psd_ret (pd_bl))) (pbd_nil)))))) (pbd_one (psd_ret (pd_bl)))), rd__law_is⟩
theorem ok__law_is_walk_right (T : Tx K mg) : FnOk P w K mg base CX0 6 T.a__law_is_walk_right T.d__law_is_walk_right ["wishes", "places"] (upSp K sp__law_is_walk_right) :=
  okD T.f__law_is_walk_right sc__law_is_walk_right ln__law_is_walk_right fun cdv A outer s H E hr => ⟨bd__law_is_walk_right, pbd_cons (psd_setLc (own := [("at", 3)]) (i := 2) rfl sc__law_is_walk_right.nd rfl rfl (sw_true rfl rfl rfl (by decide +kernel)) (pid_range1 (by rfl) T.z_range (pd_callB call_len_seq cd_len (by rfl) T.z_len boot_len (pad_cons (pd_v 1) (pad_nil)))) (blkOk_by (by dsimp only [cxOf, Cx.nox, Cx.wish, Cx.blk, compEnvC, envOfC, relabel_S]; decide +kernel)) (by decide) (fun _ _ _ _ _ => pgd_name (i := 3) sc__law_is_walk_right.nd rfl (by first | exact .inl rfl | exact .inr rfl)) (fun _ _ _ _ _ => ptsd_nil) (fun _ _ _ _ _ => pd_tuple (by rfl) T.z_tuple (pd_lc (own := [("wish", 4)]) rfl sc__law_is_walk_right.nd (pid_seq (pd_v 0)) (blkOk_by (by dsimp only [cxOf, Cx.nox, Cx.wish, Cx.blk, compEnvC, envOfC, relabel_S]; decide +kernel)) (by decide) (fun _ _ _ _ _ => pgd_name (i := 4) sc__law_is_walk_right.nd rfl (by first | exact .inl rfl | exact .inr rfl)) (fun _ _ _ _ _ => ptsd_nil) (fun _ _ _ _ _ => pd_callF (ok__law_count T) (hr.mono (by decide)) (by rfl) T.m__law_count T.f__law_count.kp T.b__law_count (pad_cons (pd_v 4) (pad_cons (pd_v 1) (pad_cons (pd_v 3) (pad_nil)))))))) (pbd_cons (psd_if (ptd_not (ptd_val (pd_callF (ok__law_is T) (hr.mono (by decide)) (by rfl) T.m__law_is T.f__law_is.kp T.b__law_is (pad_cons (pd_callF (ok_begun T) (hr.mono (by decide)) (by rfl) T.m_begun T.f_begun.kp T.b_begun (pad_cons (pd_v 0) (pad_cons (pd_ix ix_seq od_ix (pd_v 1) (pd_int)) (pad_nil)))) (pad_cons (pd_ix ix_seq od_ix (pd_v 2) (pd_int)) (pad_nil)))))) (pbd_one (psd_ret (pd_bl))) (pbd_nil)) (pbd_cons (psd_for PassesOwn.never rfl (pid_range2 (by rfl) T.z_range (pd_int) (pd_callB call_len_seq cd_len (by rfl) T.z_len boot_len (pad_cons (pd_v 1) (pad_nil)))) (pgd_name (i := 3) sc__law_is_walk_right.nd rfl (by first | exact .inl rfl | exact .inr rfl)) (pbd_one (psd_if (ptd_not (ptd_val (pd_callF (ok__law_is T) (hr.mono (by decide)) (by rfl) T.m__law_is T.f__law_is.kp T.b__law_is (pad_cons (pd_callF (ok_counted T) (hr.mono (by decide)) (by rfl) T.m_counted T.f_counted.kp T.b_counted (pad_cons (pd_v 0) (pad_cons (pd_ix ix_seq od_ix (pd_v 2) (pd_sub (pd_v 3) (pd_int))) (pad_cons (pd_ix ix_seq od_ix (pd_v 1) (pd_v 3)) (pad_nil))))) (pad_cons (pd_ix ix_seq od_ix (pd_v 2) (pd_v 3)) (pad_nil)))))) (pbd_one (psd_ret (pd_bl))) (pbd_nil)))) (pbd_one (psd_ret (pd_bl))))), rd__law_is_walk_right⟩
theorem ok__law_are_known_right (T : Tx K mg) : FnOk P w K mg base CX0 7 T.a__law_are_known_right T.d__law_are_known_right [] (upSp K sp__law_are_known_right) :=
  okD T.f__law_are_known_right sc__law_are_known_right ln__law_are_known_right fun cdv A outer s H E hr => ⟨bd__law_are_known_right, pbd_cons (psd_set (i := 0) sc__law_are_known_right.nd rfl (by first | exact .inl rfl | exact .inr rfl) (pd_lst (pad_cons (pd_tup (pad_cons (pd_int) (pad_nil))) (pad_cons (pd_tup (pad_cons (pd_int) (pad_nil))) (pad_cons (pd_tup (pad_cons (pd_int) (pad_nil))) (pad_cons (pd_tup (pad_cons (pd_int) (pad_nil))) (pad_cons (pd_tup (pad_cons (pd_int) (pad_nil))) (pad_cons (pd_tup (pad_cons (pd_int) (pad_nil))) (pad_cons (pd_tup (pad_cons (pd_int) (pad_nil))) (pad_cons (pd_tup (pad_cons (pd_int) (pad_nil))) (pad_nil))))))))))) (pbd_cons (psd_asg (pd_tup (pad_cons (pd_tup (pad_cons (pd_tup (pad_cons (pd_tup (pad_cons (pd_int) (pad_cons (pd_int) (pad_nil)))) (pad_nil))) (pad_nil))) (pad_cons (pd_tup (pad_cons (pd_tup (pad_cons (pd_tup (pad_cons (pd_int) (pad_cons (pd_int) (pad_nil)))) (pad_nil))) (pad_nil))) (pad_nil)))) (pgd_tup (K := K) rfl (pgds_cons (pgd_name (i := 3) sc__law_are_known_right.nd rfl (by first | exact .inl rfl | exact .inr rfl)) (pgds_cons (pgd_name (i := 4) sc__law_are_known_right.nd rfl (by first | exact .inl rfl | exact .inr rfl)) (pgds_nil))))) (pbd_cons (psd_set (i := 1) sc__law_are_known_right.nd rfl (by first | exact .inl rfl | exact .inr rfl) (pd_tup (pad_cons (pd_tup (pad_cons (pd_str) (pad_cons (pd_v 3) (pad_cons (pd_v 4) (pad_cons (pd_int) (pad_nil)))))) (pad_cons (pd_tup (pad_cons (pd_str) (pad_cons (pd_v 3) (pad_cons (pd_v 4) (pad_cons (pd_int) (pad_nil)))))) (pad_cons (pd_tup (pad_cons (pd_str) (pad_cons (pd_v 4) (pad_cons (pd_int) (pad_nil))))) (pad_cons (pd_tup (pad_cons (pd_str) (pad_cons (pd_v 4) (pad_cons (pd_int) (pad_nil))))) (pad_nil))))))) (pbd_cons (psd_set (i := 2) sc__law_are_known_right.nd rfl (by first | exact .inl rfl | exact .inr rfl) (pd_tup (pad_cons (pd_tup (pad_cons (pd_str) (pad_cons (pd_v 3) (pad_cons (pd_v 4) (pad_nil))))) (pad_cons (pd_tup (pad_cons (pd_str) (pad_cons (pd_v 4) (pad_cons (pd_v 3) (pad_nil))))) (pad_cons (pd_tup (pad_cons (pd_str) (pad_cons (pd_tup (pad_cons (pd_tup (pad_cons (pd_tup (pad_cons (pd_int) (pad_cons (pd_int) (pad_nil)))) (pad_nil))) (pad_nil))) (pad_nil)))) (pad_cons (pd_tup (pad_cons (pd_str) (pad_cons (pd_tup (pad_cons (pd_tup (pad_cons (pd_tup (pad_cons (pd_int) (pad_cons (pd_int) (pad_nil)))) (pad_nil))) (pad_nil))) (pad_cons (pd_int) (pad_nil))))) (pad_nil))))))) (pbd_cons (psd_if (ptd_w (pwd_or (ptd_not (ptd_val (pd_callF (ok__law_is T) (hr.mono (by decide)) (by rfl) T.m__law_is T.f__law_is.kp T.b__law_is (pad_cons (pd_callF (ok_begun T) (hr.mono (by decide)) (by rfl) T.m_begun T.f_begun.kp T.b_begun (pad_cons (pd_v 1) (pad_cons (pd_tup (pad_cons (pd_int) (pad_nil))) (pad_nil)))) (pad_cons (pd_tup (pad_cons (pd_int) (pad_cons (pd_int) (pad_cons (pd_neg (pd_int)) (pad_cons (pd_int) (pad_nil)))))) (pad_nil)))))) (pwd_or1 (ptd_not (ptd_val (pd_callF (ok__law_is T) (hr.mono (by decide)) (by rfl) T.m__law_is T.f__law_is.kp T.b__law_is (pad_cons (pd_callF (ok_begun T) (hr.mono (by decide)) (by rfl) T.m_begun T.f_begun.kp T.b_begun (pad_cons (pd_v 2) (pad_cons (pd_tup (pad_cons (pd_int) (pad_nil))) (pad_nil)))) (pad_cons (pd_tup (pad_cons (pd_non) (pad_cons (pd_int) (pad_cons (pd_int) (pad_cons (pd_int) (pad_nil)))))) (pad_nil))))))))) (pbd_one (psd_ret (pd_bl))) (pbd_nil)) (pbd_one (psd_ret (pd_and (pd_callF (ok__law_is_walk_right T) (hr.mono (by decide)) (by rfl) T.m__law_is_walk_right T.f__law_is_walk_right.kp T.b__law_is_walk_right (pad_cons (pd_v 1) (pad_cons (pd_v 0) (pad_nil)))) (pd_and (pd_callF (ok__law_is_walk_right T) (hr.mono (by decide)) (by rfl) T.m__law_is_walk_right T.f__law_is_walk_right.kp T.b__law_is_walk_right (pad_cons (pd_v 2) (pad_cons (pd_v 0) (pad_nil)))) (pd_one (pd_callF (ok__law_is_walk_right T) (hr.mono (by decide)) (by rfl) T.m__law_is_walk_right T.f__law_is_walk_right.kp T.b__law_is_walk_right (pad_cons (pd_tup (pad_nil)) (pad_cons (pd_v 0) (pad_nil))))))))))))), rd__law_are_known_right⟩
theorem ok_law (T : Tx K mg) : FnOk P w K mg base CX0 8 T.a_law T.d_law ["script"] (upSp K sp_law) :=
  okD T.f_law sc_law ln_law fun cdv A outer s H E hr => ⟨bd_law, pbd_cons (psd_set (i := 1) sc_law.nd rfl (by first | exact .inl rfl | exact .inr rfl) (pd_callF (ok__law_hand T) (hr.mono (by decide)) (by rfl) T.m__law_hand T.f__law_hand.kp T.b__law_hand (pad_cons (pd_v 0) (pad_nil)))) (pbd_cons (psd_if (ptd_not (ptd_val (pd_callF0 (ok__law_are_known_right T) (hr.mono (by decide)) (by rfl) T.m__law_are_known_right T.f__law_are_known_right.kp T.b__law_are_known_right))) (pbd_one (psd_ret (pd_bl))) (pbd_nil)) (pbd_cons (psd_for PassesOwn.never rfl (pid_range1 (by rfl) T.z_range (pd_int)) (pgd_name (i := 2) sc_law.nd rfl (by first | exact .inl rfl | exact .inr rfl)) (pbd_cons (psd_set (i := 3) sc_law.nd rfl (by first | exact .inl rfl | exact .inr rfl) (pd_addA (pd_int) (pd_callF (ok__law_draw T) (hr.mono (by decide)) (by rfl) T.m__law_draw T.f__law_draw.kp T.b__law_draw (pad_cons (pd_v 1) (pad_cons (pd_int) (pad_nil)))))) (pbd_cons (psd_set (i := 4) sc_law.nd rfl (by first | exact .inl rfl | exact .inr rfl) (pd_tuple (by rfl) T.z_tuple (pd_lc (own := [("again", 5)]) rfl sc_law.nd (pid_range1 (by rfl) T.z_range (pd_callF (ok__law_some T) (hr.mono (by decide)) (by rfl) T.m__law_some T.f__law_some.kp T.b__law_some (pad_cons (pd_v 1) (pad_cons (pd_lst (pad_cons (pd_int) (pad_cons (pd_int) (pad_cons (pd_int) (pad_nil))))) (pad_nil))))) (blkOk_by (by dsimp only [cxOf, Cx.nox, Cx.wish, Cx.blk, compEnvC, envOfC, relabel_S]; decide +kernel)) (by decide) (fun _ _ _ _ _ => pgd_name (i := 5) sc_law.nd rfl (by first | exact .inl rfl | exact .inr rfl)) (fun _ _ _ _ _ => ptsd_nil) (fun _ _ _ _ _ => pd_callF (ok__law_wish T) (hr.mono (by decide)) (by rfl) T.m__law_wish T.f__law_wish.kp T.b__law_wish (pad_cons (pd_v 1) (pad_cons (pd_v 3) (pad_nil))))))) (pbd_one (psd_if (ptd_not (ptd_val (pd_callF (ok__law_is_walk_right T) (hr.mono (by decide)) (by rfl) T.m__law_is_walk_right T.f__law_is_walk_right.kp T.b__law_is_walk_right (pad_cons (pd_v 4) (pad_cons (pd_callF (ok__law_places T) (hr.mono (by decide)) (by rfl) T.m__law_places T.f__law_places.kp T.b__law_places (pad_cons (pd_v 1) (pad_cons (pd_v 3) (pad_cons (pd_callF (ok__law_some T) (hr.mono (by decide)) (by rfl) T.m__law_some T.f__law_some.kp T.b__law_some (pad_cons (pd_v 1) (pad_cons (pd_lst (pad_cons (pd_int) (pad_cons (pd_int) (pad_cons (pd_int) (pad_cons (pd_int) (pad_nil)))))) (pad_nil)))) (pad_nil))))) (pad_nil)))))) (pbd_one (psd_ret (pd_bl))) (pbd_nil)))))) (pbd_one (psd_ret (pd_bl))))), rd_law⟩
end
/-! ### what the top has left -/
section
variable {K : PySem.W.Frag} {h : Heap} {mg : Str → Option Value}
def mkT (X : K.In h) (G : h.Ns mainGlobals mg)
    {f_in_box : Addr} {od_in_box an_in_box : Option Addr} {sl_in_box : Array (Option Value)} {oc_in_box kV_in_box dc_in_box pm_in_box cd_in_box ct_in_box : Value}
    (a_in_box : PySem.W.nsIn K mainGlobals "in_box" = some (some (.ref f_in_box))) (l_in_box : K.lookup f_in_box = some ⟨oc_in_box, od_in_box, .func (PySem.W.fnOf "in_box" "in_box" (defArgs s_in_box) (defBody s_in_box) (defScope s_in_box) .none kV_in_box dc_in_box pm_in_box an_in_box cd_in_box ct_in_box), sl_in_box⟩) (c_in_box : PySem.W.codeIn K cd_in_box "in_box" = true) (k_in_box : PySem.W.keepIn K (.ref f_in_box) = true)
    {f_in_area : Addr} {od_in_area an_in_area : Option Addr} {sl_in_area : Array (Option Value)} {oc_in_area kV_in_area dc_in_area pm_in_area cd_in_area ct_in_area : Value}
    (a_in_area : PySem.W.nsIn K mainGlobals "in_area" = some (some (.ref f_in_area))) (l_in_area : K.lookup f_in_area = some ⟨oc_in_area, od_in_area, .func (PySem.W.fnOf "in_area" "in_area" (defArgs s_in_area) (defBody s_in_area) (defScope s_in_area) .none kV_in_area dc_in_area pm_in_area an_in_area cd_in_area ct_in_area), sl_in_area⟩) (c_in_area : PySem.W.codeIn K cd_in_area "in_area" = true) (k_in_area : PySem.W.keepIn K (.ref f_in_area) = true)
    {f_marks : Addr} {od_marks an_marks : Option Addr} {sl_marks : Array (Option Value)} {oc_marks kV_marks dc_marks pm_marks cd_marks ct_marks : Value}
    (a_marks : PySem.W.nsIn K mainGlobals "marks" = some (some (.ref f_marks))) (l_marks : K.lookup f_marks = some ⟨oc_marks, od_marks, .func (PySem.W.fnOf "marks" "marks" (defArgs s_marks) (defBody s_marks) (defScope s_marks) .none kV_marks dc_marks pm_marks an_marks cd_marks ct_marks), sl_marks⟩) (c_marks : PySem.W.codeIn K cd_marks "marks" = true) (k_marks : PySem.W.keepIn K (.ref f_marks) = true)
    {f_ahead_count : Addr} {od_ahead_count an_ahead_count : Option Addr} {sl_ahead_count : Array (Option Value)} {oc_ahead_count kV_ahead_count dc_ahead_count pm_ahead_count cd_ahead_count ct_ahead_count : Value}
    (a_ahead_count : PySem.W.nsIn K mainGlobals "ahead_count" = some (some (.ref f_ahead_count))) (l_ahead_count : K.lookup f_ahead_count = some ⟨oc_ahead_count, od_ahead_count, .func (PySem.W.fnOf "ahead_count" "ahead_count" (defArgs s_ahead_count) (defBody s_ahead_count) (defScope s_ahead_count) .none kV_ahead_count dc_ahead_count pm_ahead_count an_ahead_count cd_ahead_count ct_ahead_count), sl_ahead_count⟩) (c_ahead_count : PySem.W.codeIn K cd_ahead_count "ahead_count" = true) (k_ahead_count : PySem.W.keepIn K (.ref f_ahead_count) = true)
    {f_count_at_first : Addr} {od_count_at_first an_count_at_first : Option Addr} {sl_count_at_first : Array (Option Value)} {oc_count_at_first kV_count_at_first dc_count_at_first pm_count_at_first cd_count_at_first ct_count_at_first : Value}
    (a_count_at_first : PySem.W.nsIn K mainGlobals "count_at_first" = some (some (.ref f_count_at_first))) (l_count_at_first : K.lookup f_count_at_first = some ⟨oc_count_at_first, od_count_at_first, .func (PySem.W.fnOf "count_at_first" "count_at_first" (defArgs s_count_at_first) (defBody s_count_at_first) (defScope s_count_at_first) .none kV_count_at_first dc_count_at_first pm_count_at_first an_count_at_first cd_count_at_first ct_count_at_first), sl_count_at_first⟩) (c_count_at_first : PySem.W.codeIn K cd_count_at_first "count_at_first" = true) (k_count_at_first : PySem.W.keepIn K (.ref f_count_at_first) = true)
    {f_unless_above : Addr} {od_unless_above an_unless_above : Option Addr} {sl_unless_above : Array (Option Value)} {oc_unless_above kV_unless_above dc_unless_above pm_unless_above cd_unless_above ct_unless_above : Value}
    (a_unless_above : PySem.W.nsIn K mainGlobals "unless_above" = some (some (.ref f_unless_above))) (l_unless_above : K.lookup f_unless_above = some ⟨oc_unless_above, od_unless_above, .func (PySem.W.fnOf "unless_above" "unless_above" (defArgs s_unless_above) (defBody s_unless_above) (defScope s_unless_above) .none kV_unless_above dc_unless_above pm_unless_above an_unless_above cd_unless_above ct_unless_above), sl_unless_above⟩) (c_unless_above : PySem.W.codeIn K cd_unless_above "unless_above" = true) (k_unless_above : PySem.W.keepIn K (.ref f_unless_above) = true)
    {f_next_waiting : Addr} {od_next_waiting an_next_waiting : Option Addr} {sl_next_waiting : Array (Option Value)} {oc_next_waiting kV_next_waiting dc_next_waiting pm_next_waiting cd_next_waiting ct_next_waiting : Value}
    (a_next_waiting : PySem.W.nsIn K mainGlobals "next_waiting" = some (some (.ref f_next_waiting))) (l_next_waiting : K.lookup f_next_waiting = some ⟨oc_next_waiting, od_next_waiting, .func (PySem.W.fnOf "next_waiting" "next_waiting" (defArgs s_next_waiting) (defBody s_next_waiting) (defScope s_next_waiting) .none kV_next_waiting dc_next_waiting pm_next_waiting an_next_waiting cd_next_waiting ct_next_waiting), sl_next_waiting⟩) (c_next_waiting : PySem.W.codeIn K cd_next_waiting "next_waiting" = true) (k_next_waiting : PySem.W.keepIn K (.ref f_next_waiting) = true)
    {f_next_count : Addr} {od_next_count an_next_count : Option Addr} {sl_next_count : Array (Option Value)} {oc_next_count kV_next_count dc_next_count pm_next_count cd_next_count ct_next_count : Value}
    (a_next_count : PySem.W.nsIn K mainGlobals "next_count" = some (some (.ref f_next_count))) (l_next_count : K.lookup f_next_count = some ⟨oc_next_count, od_next_count, .func (PySem.W.fnOf "next_count" "next_count" (defArgs s_next_count) (defBody s_next_count) (defScope s_next_count) .none kV_next_count dc_next_count pm_next_count an_next_count cd_next_count ct_next_count), sl_next_count⟩) (c_next_count : PySem.W.codeIn K cd_next_count "next_count" = true) (k_next_count : PySem.W.keepIn K (.ref f_next_count) = true)
    {f_begun_by : Addr} {od_begun_by an_begun_by : Option Addr} {sl_begun_by : Array (Option Value)} {oc_begun_by kV_begun_by dc_begun_by pm_begun_by cd_begun_by ct_begun_by : Value}
    (a_begun_by : PySem.W.nsIn K mainGlobals "begun_by" = some (some (.ref f_begun_by))) (l_begun_by : K.lookup f_begun_by = some ⟨oc_begun_by, od_begun_by, .func (PySem.W.fnOf "begun_by" "begun_by" (defArgs s_begun_by) (defBody s_begun_by) (defScope s_begun_by) .none kV_begun_by dc_begun_by pm_begun_by an_begun_by cd_begun_by ct_begun_by), sl_begun_by⟩) (c_begun_by : PySem.W.codeIn K cd_begun_by "begun_by" = true) (k_begun_by : PySem.W.keepIn K (.ref f_begun_by) = true)
    {f_counted_by : Addr} {od_counted_by an_counted_by : Option Addr} {sl_counted_by : Array (Option Value)} {oc_counted_by kV_counted_by dc_counted_by pm_counted_by cd_counted_by ct_counted_by : Value}
    (a_counted_by : PySem.W.nsIn K mainGlobals "counted_by" = some (some (.ref f_counted_by))) (l_counted_by : K.lookup f_counted_by = some ⟨oc_counted_by, od_counted_by, .func (PySem.W.fnOf "counted_by" "counted_by" (defArgs s_counted_by) (defBody s_counted_by) (defScope s_counted_by) .none kV_counted_by dc_counted_by pm_counted_by an_counted_by cd_counted_by ct_counted_by), sl_counted_by⟩) (c_counted_by : PySem.W.codeIn K cd_counted_by "counted_by" = true) (k_counted_by : PySem.W.keepIn K (.ref f_counted_by) = true)
    {f_begun : Addr} {od_begun an_begun : Option Addr} {sl_begun : Array (Option Value)} {oc_begun kV_begun dc_begun pm_begun cd_begun ct_begun : Value}
    (a_begun : PySem.W.nsIn K mainGlobals "begun" = some (some (.ref f_begun))) (l_begun : K.lookup f_begun = some ⟨oc_begun, od_begun, .func (PySem.W.fnOf "begun" "begun" (defArgs s_begun) (defBody s_begun) (defScope s_begun) .none kV_begun dc_begun pm_begun an_begun cd_begun ct_begun), sl_begun⟩) (c_begun : PySem.W.codeIn K cd_begun "begun" = true) (k_begun : PySem.W.keepIn K (.ref f_begun) = true)
    {f_counted : Addr} {od_counted an_counted : Option Addr} {sl_counted : Array (Option Value)} {oc_counted kV_counted dc_counted pm_counted cd_counted ct_counted : Value}
    (a_counted : PySem.W.nsIn K mainGlobals "counted" = some (some (.ref f_counted))) (l_counted : K.lookup f_counted = some ⟨oc_counted, od_counted, .func (PySem.W.fnOf "counted" "counted" (defArgs s_counted) (defBody s_counted) (defScope s_counted) .none kV_counted dc_counted pm_counted an_counted cd_counted ct_counted), sl_counted⟩) (c_counted : PySem.W.codeIn K cd_counted "counted" = true) (k_counted : PySem.W.keepIn K (.ref f_counted) = true)
    {f__law_hand : Addr} {od__law_hand an__law_hand : Option Addr} {sl__law_hand : Array (Option Value)} {oc__law_hand kV__law_hand dc__law_hand pm__law_hand cd__law_hand ct__law_hand : Value}
    (a__law_hand : PySem.W.nsIn K mainGlobals "_law_hand" = some (some (.ref f__law_hand))) (l__law_hand : K.lookup f__law_hand = some ⟨oc__law_hand, od__law_hand, .func (PySem.W.fnOf "_law_hand" "_law_hand" (defArgs s__law_hand) (defBody s__law_hand) (defScope s__law_hand) .none kV__law_hand dc__law_hand pm__law_hand an__law_hand cd__law_hand ct__law_hand), sl__law_hand⟩) (c__law_hand : PySem.W.codeIn K cd__law_hand "_law_hand" = true) (k__law_hand : PySem.W.keepIn K (.ref f__law_hand) = true)
    {f__law_draw : Addr} {od__law_draw an__law_draw : Option Addr} {sl__law_draw : Array (Option Value)} {oc__law_draw kV__law_draw dc__law_draw pm__law_draw cd__law_draw ct__law_draw : Value}
    (a__law_draw : PySem.W.nsIn K mainGlobals "_law_draw" = some (some (.ref f__law_draw))) (l__law_draw : K.lookup f__law_draw = some ⟨oc__law_draw, od__law_draw, .func (PySem.W.fnOf "_law_draw" "_law_draw" (defArgs s__law_draw) (defBody s__law_draw) (defScope s__law_draw) .none kV__law_draw dc__law_draw pm__law_draw an__law_draw cd__law_draw ct__law_draw), sl__law_draw⟩) (c__law_draw : PySem.W.codeIn K cd__law_draw "_law_draw" = true) (k__law_draw : PySem.W.keepIn K (.ref f__law_draw) = true)
    {f__law_some : Addr} {od__law_some an__law_some : Option Addr} {sl__law_some : Array (Option Value)} {oc__law_some kV__law_some dc__law_some pm__law_some cd__law_some ct__law_some : Value}
    (a__law_some : PySem.W.nsIn K mainGlobals "_law_some" = some (some (.ref f__law_some))) (l__law_some : K.lookup f__law_some = some ⟨oc__law_some, od__law_some, .func (PySem.W.fnOf "_law_some" "_law_some" (defArgs s__law_some) (defBody s__law_some) (defScope s__law_some) .none kV__law_some dc__law_some pm__law_some an__law_some cd__law_some ct__law_some), sl__law_some⟩) (c__law_some : PySem.W.codeIn K cd__law_some "_law_some" = true) (k__law_some : PySem.W.keepIn K (.ref f__law_some) = true)
    {f__law_in : Addr} {od__law_in an__law_in : Option Addr} {sl__law_in : Array (Option Value)} {oc__law_in kV__law_in dc__law_in pm__law_in cd__law_in ct__law_in : Value}
    (a__law_in : PySem.W.nsIn K mainGlobals "_law_in" = some (some (.ref f__law_in))) (l__law_in : K.lookup f__law_in = some ⟨oc__law_in, od__law_in, .func (PySem.W.fnOf "_law_in" "_law_in" (defArgs s__law_in) (defBody s__law_in) (defScope s__law_in) .none kV__law_in dc__law_in pm__law_in an__law_in cd__law_in ct__law_in), sl__law_in⟩) (c__law_in : PySem.W.codeIn K cd__law_in "_law_in" = true) (k__law_in : PySem.W.keepIn K (.ref f__law_in) = true)
    {f__law_breaks : Addr} {od__law_breaks an__law_breaks : Option Addr} {sl__law_breaks : Array (Option Value)} {oc__law_breaks kV__law_breaks dc__law_breaks pm__law_breaks cd__law_breaks ct__law_breaks : Value}
    (a__law_breaks : PySem.W.nsIn K mainGlobals "_law_breaks" = some (some (.ref f__law_breaks))) (l__law_breaks : K.lookup f__law_breaks = some ⟨oc__law_breaks, od__law_breaks, .func (PySem.W.fnOf "_law_breaks" "_law_breaks" (defArgs s__law_breaks) (defBody s__law_breaks) (defScope s__law_breaks) .none kV__law_breaks dc__law_breaks pm__law_breaks an__law_breaks cd__law_breaks ct__law_breaks), sl__law_breaks⟩) (c__law_breaks : PySem.W.codeIn K cd__law_breaks "_law_breaks" = true) (k__law_breaks : PySem.W.keepIn K (.ref f__law_breaks) = true)
    {f__law_box : Addr} {od__law_box an__law_box : Option Addr} {sl__law_box : Array (Option Value)} {oc__law_box kV__law_box dc__law_box pm__law_box cd__law_box ct__law_box : Value}
    (a__law_box : PySem.W.nsIn K mainGlobals "_law_box" = some (some (.ref f__law_box))) (l__law_box : K.lookup f__law_box = some ⟨oc__law_box, od__law_box, .func (PySem.W.fnOf "_law_box" "_law_box" (defArgs s__law_box) (defBody s__law_box) (defScope s__law_box) .none kV__law_box dc__law_box pm__law_box an__law_box cd__law_box ct__law_box), sl__law_box⟩) (c__law_box : PySem.W.codeIn K cd__law_box "_law_box" = true) (k__law_box : PySem.W.keepIn K (.ref f__law_box) = true)
    {f__law_area : Addr} {od__law_area an__law_area : Option Addr} {sl__law_area : Array (Option Value)} {oc__law_area kV__law_area dc__law_area pm__law_area cd__law_area ct__law_area : Value}
    (a__law_area : PySem.W.nsIn K mainGlobals "_law_area" = some (some (.ref f__law_area))) (l__law_area : K.lookup f__law_area = some ⟨oc__law_area, od__law_area, .func (PySem.W.fnOf "_law_area" "_law_area" (defArgs s__law_area) (defBody s__law_area) (defScope s__law_area) .none kV__law_area dc__law_area pm__law_area an__law_area cd__law_area ct__law_area), sl__law_area⟩) (c__law_area : PySem.W.codeIn K cd__law_area "_law_area" = true) (k__law_area : PySem.W.keepIn K (.ref f__law_area) = true)
    {f__law_wish : Addr} {od__law_wish an__law_wish : Option Addr} {sl__law_wish : Array (Option Value)} {oc__law_wish kV__law_wish dc__law_wish pm__law_wish cd__law_wish ct__law_wish : Value}
    (a__law_wish : PySem.W.nsIn K mainGlobals "_law_wish" = some (some (.ref f__law_wish))) (l__law_wish : K.lookup f__law_wish = some ⟨oc__law_wish, od__law_wish, .func (PySem.W.fnOf "_law_wish" "_law_wish" (defArgs s__law_wish) (defBody s__law_wish) (defScope s__law_wish) .none kV__law_wish dc__law_wish pm__law_wish an__law_wish cd__law_wish ct__law_wish), sl__law_wish⟩) (c__law_wish : PySem.W.codeIn K cd__law_wish "_law_wish" = true) (k__law_wish : PySem.W.keepIn K (.ref f__law_wish) = true)
    {f__law_places : Addr} {od__law_places an__law_places : Option Addr} {sl__law_places : Array (Option Value)} {oc__law_places kV__law_places dc__law_places pm__law_places cd__law_places ct__law_places : Value}
    (a__law_places : PySem.W.nsIn K mainGlobals "_law_places" = some (some (.ref f__law_places))) (l__law_places : K.lookup f__law_places = some ⟨oc__law_places, od__law_places, .func (PySem.W.fnOf "_law_places" "_law_places" (defArgs s__law_places) (defBody s__law_places) (defScope s__law_places) .none kV__law_places dc__law_places pm__law_places an__law_places cd__law_places ct__law_places), sl__law_places⟩) (c__law_places : PySem.W.codeIn K cd__law_places "_law_places" = true) (k__law_places : PySem.W.keepIn K (.ref f__law_places) = true)
    {f__law_count : Addr} {od__law_count an__law_count : Option Addr} {sl__law_count : Array (Option Value)} {oc__law_count kV__law_count dc__law_count pm__law_count cd__law_count ct__law_count : Value}
    (a__law_count : PySem.W.nsIn K mainGlobals "_law_count" = some (some (.ref f__law_count))) (l__law_count : K.lookup f__law_count = some ⟨oc__law_count, od__law_count, .func (PySem.W.fnOf "_law_count" "_law_count" (defArgs s__law_count) (defBody s__law_count) (defScope s__law_count) .none kV__law_count dc__law_count pm__law_count an__law_count cd__law_count ct__law_count), sl__law_count⟩) (c__law_count : PySem.W.codeIn K cd__law_count "_law_count" = true) (k__law_count : PySem.W.keepIn K (.ref f__law_count) = true)
    {f__law_is : Addr} {od__law_is an__law_is : Option Addr} {sl__law_is : Array (Option Value)} {oc__law_is kV__law_is dc__law_is pm__law_is cd__law_is ct__law_is : Value}
    (a__law_is : PySem.W.nsIn K mainGlobals "_law_is" = some (some (.ref f__law_is))) (l__law_is : K.lookup f__law_is = some ⟨oc__law_is, od__law_is, .func (PySem.W.fnOf "_law_is" "_law_is" (defArgs s__law_is) (defBody s__law_is) (defScope s__law_is) .none kV__law_is dc__law_is pm__law_is an__law_is cd__law_is ct__law_is), sl__law_is⟩) (c__law_is : PySem.W.codeIn K cd__law_is "_law_is" = true) (k__law_is : PySem.W.keepIn K (.ref f__law_is) = true)
    {f__law_is_walk_right : Addr} {od__law_is_walk_right an__law_is_walk_right : Option Addr} {sl__law_is_walk_right : Array (Option Value)} {oc__law_is_walk_right kV__law_is_walk_right dc__law_is_walk_right pm__law_is_walk_right cd__law_is_walk_right ct__law_is_walk_right : Value}
    (a__law_is_walk_right : PySem.W.nsIn K mainGlobals "_law_is_walk_right" = some (some (.ref f__law_is_walk_right))) (l__law_is_walk_right : K.lookup f__law_is_walk_right = some ⟨oc__law_is_walk_right, od__law_is_walk_right, .func (PySem.W.fnOf "_law_is_walk_right" "_law_is_walk_right" (defArgs s__law_is_walk_right) (defBody s__law_is_walk_right) (defScope s__law_is_walk_right) .none kV__law_is_walk_right dc__law_is_walk_right pm__law_is_walk_right an__law_is_walk_right cd__law_is_walk_right ct__law_is_walk_right), sl__law_is_walk_right⟩) (c__law_is_walk_right : PySem.W.codeIn K cd__law_is_walk_right "_law_is_walk_right" = true) (k__law_is_walk_right : PySem.W.keepIn K (.ref f__law_is_walk_right) = true)
    {f__law_are_known_right : Addr} {od__law_are_known_right an__law_are_known_right : Option Addr} {sl__law_are_known_right : Array (Option Value)} {oc__law_are_known_right kV__law_are_known_right dc__law_are_known_right pm__law_are_known_right cd__law_are_known_right ct__law_are_known_right : Value}
    (a__law_are_known_right : PySem.W.nsIn K mainGlobals "_law_are_known_right" = some (some (.ref f__law_are_known_right))) (l__law_are_known_right : K.lookup f__law_are_known_right = some ⟨oc__law_are_known_right, od__law_are_known_right, .func (PySem.W.fnOf "_law_are_known_right" "_law_are_known_right" (defArgs s__law_are_known_right) (defBody s__law_are_known_right) (defScope s__law_are_known_right) .none kV__law_are_known_right dc__law_are_known_right pm__law_are_known_right an__law_are_known_right cd__law_are_known_right ct__law_are_known_right), sl__law_are_known_right⟩) (c__law_are_known_right : PySem.W.codeIn K cd__law_are_known_right "_law_are_known_right" = true) (k__law_are_known_right : PySem.W.keepIn K (.ref f__law_are_known_right) = true)
    {f_law : Addr} {od_law an_law : Option Addr} {sl_law : Array (Option Value)} {oc_law kV_law dc_law pm_law cd_law ct_law : Value}
    (a_law : PySem.W.nsIn K mainGlobals "law" = some (some (.ref f_law))) (l_law : K.lookup f_law = some ⟨oc_law, od_law, .func (PySem.W.fnOf "law" "law" (defArgs s_law) (defBody s_law) (defScope s_law) .none kV_law dc_law pm_law an_law cd_law ct_law), sl_law⟩) (c_law : PySem.W.codeIn K cd_law "law" = true) (k_law : PySem.W.keepIn K (.ref f_law) = true)
    {f_WITH_OTHER : Addr} {od_WITH_OTHER : Option Addr} {n_WITH_OTHER : Nat} {sl_WITH_OTHER : Array (Option Value)} {t0_WITH_OTHER t1_WITH_OTHER : Tok}
    (a_WITH_OTHER : PySem.W.nsIn K mainGlobals "WITH_OTHER" = some (some (.ref f_WITH_OTHER))) (l_WITH_OTHER : K.lookup f_WITH_OTHER = some ⟨.type "tuple", od_WITH_OTHER, .seq #[.str "answered" t0_WITH_OTHER, .str "ahead" t1_WITH_OTHER] n_WITH_OTHER, sl_WITH_OTHER⟩)
    (z_abs : PySem.W.nsIn K mainGlobals "abs" = some none)
    (z_all : PySem.W.nsIn K mainGlobals "all" = some none)
    (z_any : PySem.W.nsIn K mainGlobals "any" = some none)
    (z_bool : PySem.W.nsIn K mainGlobals "bool" = some none)
    (z_int : PySem.W.nsIn K mainGlobals "int" = some none)
    (z_isinstance : PySem.W.nsIn K mainGlobals "isinstance" = some none)
    (z_len : PySem.W.nsIn K mainGlobals "len" = some none)
    (z_max : PySem.W.nsIn K mainGlobals "max" = some none)
    (z_min : PySem.W.nsIn K mainGlobals "min" = some none)
    (z_range : PySem.W.nsIn K mainGlobals "range" = some none)
    (z_tuple : PySem.W.nsIn K mainGlobals "tuple" = some none)
    (z_zip : PySem.W.nsIn K mainGlobals "zip" = some none) : Tx K mg where
  a_in_box := f_in_box
  d_in_box := _
  f_in_box := fun_mk (st := s_in_box) l_in_box c_in_box k_in_box
  b_in_box := (fun_mk (st := s_in_box) l_in_box c_in_box k_in_box).binds (ps := ["box", "place"]) fun _ _ _ _ _ _ us hl => match us, hl with | [_, _], _ => rfl
  m_in_box := PySem.W.mg_of X G a_in_box
  a_in_area := f_in_area
  d_in_area := _
  f_in_area := fun_mk (st := s_in_area) l_in_area c_in_area k_in_area
  b_in_area := (fun_mk (st := s_in_area) l_in_area c_in_area k_in_area).binds (ps := ["area", "place"]) fun _ _ _ _ _ _ us hl => match us, hl with | [_, _], _ => rfl
  m_in_area := PySem.W.mg_of X G a_in_area
  a_marks := f_marks
  d_marks := _
  f_marks := fun_mk (st := s_marks) l_marks c_marks k_marks
  b_marks := (fun_mk (st := s_marks) l_marks c_marks k_marks).binds (ps := ["wishes", "place"]) fun _ _ _ _ _ _ us hl => match us, hl with | [_, _], _ => rfl
  m_marks := PySem.W.mg_of X G a_marks
  a_ahead_count := f_ahead_count
  d_ahead_count := _
  f_ahead_count := fun_mk (st := s_ahead_count) l_ahead_count c_ahead_count k_ahead_count
  b_ahead_count := (fun_mk (st := s_ahead_count) l_ahead_count c_ahead_count k_ahead_count).binds (ps := ["inside", "other"]) fun _ _ _ _ _ _ us hl => match us, hl with | [_, _], _ => rfl
  m_ahead_count := PySem.W.mg_of X G a_ahead_count
  a_count_at_first := f_count_at_first
  d_count_at_first := _
  f_count_at_first := fun_mk (st := s_count_at_first) l_count_at_first c_count_at_first k_count_at_first
  b_count_at_first := (fun_mk (st := s_count_at_first) l_count_at_first c_count_at_first k_count_at_first).binds (ps := ["wish", "inside", "other"]) fun _ _ _ _ _ _ us hl => match us, hl with | [_, _, _], _ => rfl
  m_count_at_first := PySem.W.mg_of X G a_count_at_first
  a_unless_above := f_unless_above
  d_unless_above := _
  f_unless_above := fun_mk (st := s_unless_above) l_unless_above c_unless_above k_unless_above
  b_unless_above := (fun_mk (st := s_unless_above) l_unless_above c_unless_above k_unless_above).binds (ps := ["count", "most"]) fun _ _ _ _ _ _ us hl => match us, hl with | [_, _], _ => rfl
  m_unless_above := PySem.W.mg_of X G a_unless_above
  a_next_waiting := f_next_waiting
  d_next_waiting := _
  f_next_waiting := fun_mk (st := s_next_waiting) l_next_waiting c_next_waiting k_next_waiting
  b_next_waiting := (fun_mk (st := s_next_waiting) l_next_waiting c_next_waiting k_next_waiting).binds (ps := ["wish", "count", "inside", "other"]) fun _ _ _ _ _ _ us hl => match us, hl with | [_, _, _, _], _ => rfl
  m_next_waiting := PySem.W.mg_of X G a_next_waiting
  a_next_count := f_next_count
  d_next_count := _
  f_next_count := fun_mk (st := s_next_count) l_next_count c_next_count k_next_count
  b_next_count := (fun_mk (st := s_next_count) l_next_count c_next_count k_next_count).binds (ps := ["wish", "count", "inside", "other"]) fun _ _ _ _ _ _ us hl => match us, hl with | [_, _, _, _], _ => rfl
  m_next_count := PySem.W.mg_of X G a_next_count
  a_begun_by := f_begun_by
  d_begun_by := _
  f_begun_by := fun_mk (st := s_begun_by) l_begun_by c_begun_by k_begun_by
  b_begun_by := (fun_mk (st := s_begun_by) l_begun_by c_begun_by k_begun_by).binds (ps := ["wishes", "marked"]) fun _ _ _ _ _ _ us hl => match us, hl with | [_, _], _ => rfl
  m_begun_by := PySem.W.mg_of X G a_begun_by
  a_counted_by := f_counted_by
  d_counted_by := _
  f_counted_by := fun_mk (st := s_counted_by) l_counted_by c_counted_by k_counted_by
  b_counted_by := (fun_mk (st := s_counted_by) l_counted_by c_counted_by k_counted_by).binds (ps := ["wishes", "counts", "marked"]) fun _ _ _ _ _ _ us hl => match us, hl with | [_, _, _], _ => rfl
  m_counted_by := PySem.W.mg_of X G a_counted_by
  a_begun := f_begun
  d_begun := _
  f_begun := fun_mk (st := s_begun) l_begun c_begun k_begun
  b_begun := (fun_mk (st := s_begun) l_begun c_begun k_begun).binds (ps := ["wishes", "place"]) fun _ _ _ _ _ _ us hl => match us, hl with | [_, _], _ => rfl
  m_begun := PySem.W.mg_of X G a_begun
  a_counted := f_counted
  d_counted := _
  f_counted := fun_mk (st := s_counted) l_counted c_counted k_counted
  b_counted := (fun_mk (st := s_counted) l_counted c_counted k_counted).binds (ps := ["wishes", "counts", "place"]) fun _ _ _ _ _ _ us hl => match us, hl with | [_, _, _], _ => rfl
  m_counted := PySem.W.mg_of X G a_counted
  a__law_hand := f__law_hand
  d__law_hand := _
  f__law_hand := fun_mk (st := s__law_hand) l__law_hand c__law_hand k__law_hand
  b__law_hand := (fun_mk (st := s__law_hand) l__law_hand c__law_hand k__law_hand).binds (ps := ["script"]) fun _ _ _ _ _ _ us hl => match us, hl with | [_], _ => rfl
  m__law_hand := PySem.W.mg_of X G a__law_hand
  a__law_draw := f__law_draw
  d__law_draw := _
  f__law_draw := fun_mk (st := s__law_draw) l__law_draw c__law_draw k__law_draw
  b__law_draw := (fun_mk (st := s__law_draw) l__law_draw c__law_draw k__law_draw).binds (ps := ["hand", "many"]) fun _ _ _ _ _ _ us hl => match us, hl with | [_, _], _ => rfl
  m__law_draw := PySem.W.mg_of X G a__law_draw
  a__law_some := f__law_some
  d__law_some := _
  f__law_some := fun_mk (st := s__law_some) l__law_some c__law_some k__law_some
  b__law_some := (fun_mk (st := s__law_some) l__law_some c__law_some k__law_some).binds (ps := ["hand", "things"]) fun _ _ _ _ _ _ us hl => match us, hl with | [_, _], _ => rfl
  m__law_some := PySem.W.mg_of X G a__law_some
  a__law_in := f__law_in
  d__law_in := _
  f__law_in := fun_mk (st := s__law_in) l__law_in c__law_in k__law_in
  b__law_in := (fun_mk (st := s__law_in) l__law_in c__law_in k__law_in).binds (ps := ["area", "place"]) fun _ _ _ _ _ _ us hl => match us, hl with | [_, _], _ => rfl
  m__law_in := PySem.W.mg_of X G a__law_in
  a__law_breaks := f__law_breaks
  d__law_breaks := _
  f__law_breaks := fun_mk (st := s__law_breaks) l__law_breaks c__law_breaks k__law_breaks
  b__law_breaks := (fun_mk (st := s__law_breaks) l__law_breaks c__law_breaks k__law_breaks).binds (ps := ["wish", "places", "at"]) fun _ _ _ _ _ _ us hl => match us, hl with | [_, _, _], _ => rfl
  m__law_breaks := PySem.W.mg_of X G a__law_breaks
  a__law_box := f__law_box
  d__law_box := _
  f__law_box := fun_mk (st := s__law_box) l__law_box c__law_box k__law_box
  b__law_box := (fun_mk (st := s__law_box) l__law_box c__law_box k__law_box).binds (ps := ["hand", "axes"]) fun _ _ _ _ _ _ us hl => match us, hl with | [_, _], _ => rfl
  m__law_box := PySem.W.mg_of X G a__law_box
  a__law_area := f__law_area
  d__law_area := _
  f__law_area := fun_mk (st := s__law_area) l__law_area c__law_area k__law_area
  b__law_area := (fun_mk (st := s__law_area) l__law_area c__law_area k__law_area).binds (ps := ["hand", "axes"]) fun _ _ _ _ _ _ us hl => match us, hl with | [_, _], _ => rfl
  m__law_area := PySem.W.mg_of X G a__law_area
  a__law_wish := f__law_wish
  d__law_wish := _
  f__law_wish := fun_mk (st := s__law_wish) l__law_wish c__law_wish k__law_wish
  b__law_wish := (fun_mk (st := s__law_wish) l__law_wish c__law_wish k__law_wish).binds (ps := ["hand", "axes"]) fun _ _ _ _ _ _ us hl => match us, hl with | [_, _], _ => rfl
  m__law_wish := PySem.W.mg_of X G a__law_wish
  a__law_places := f__law_places
  d__law_places := _
  f__law_places := fun_mk (st := s__law_places) l__law_places c__law_places k__law_places
  b__law_places := (fun_mk (st := s__law_places) l__law_places c__law_places k__law_places).binds (ps := ["hand", "axes", "many"]) fun _ _ _ _ _ _ us hl => match us, hl with | [_, _, _], _ => rfl
  m__law_places := PySem.W.mg_of X G a__law_places
  a__law_count := f__law_count
  d__law_count := _
  f__law_count := fun_mk (st := s__law_count) l__law_count c__law_count k__law_count
  b__law_count := (fun_mk (st := s__law_count) l__law_count c__law_count k__law_count).binds (ps := ["wish", "places", "at"]) fun _ _ _ _ _ _ us hl => match us, hl with | [_, _, _], _ => rfl
  m__law_count := PySem.W.mg_of X G a__law_count
  a__law_is := f__law_is
  d__law_is := _
  f__law_is := fun_mk (st := s__law_is) l__law_is c__law_is k__law_is
  b__law_is := (fun_mk (st := s__law_is) l__law_is c__law_is k__law_is).binds (ps := ["told", "due"]) fun _ _ _ _ _ _ us hl => match us, hl with | [_, _], _ => rfl
  m__law_is := PySem.W.mg_of X G a__law_is
  a__law_is_walk_right := f__law_is_walk_right
  d__law_is_walk_right := _
  f__law_is_walk_right := fun_mk (st := s__law_is_walk_right) l__law_is_walk_right c__law_is_walk_right k__law_is_walk_right
  b__law_is_walk_right := (fun_mk (st := s__law_is_walk_right) l__law_is_walk_right c__law_is_walk_right k__law_is_walk_right).binds (ps := ["wishes", "places"]) fun _ _ _ _ _ _ us hl => match us, hl with | [_, _], _ => rfl
  m__law_is_walk_right := PySem.W.mg_of X G a__law_is_walk_right
  a__law_are_known_right := f__law_are_known_right
  d__law_are_known_right := _
  f__law_are_known_right := fun_mk (st := s__law_are_known_right) l__law_are_known_right c__law_are_known_right k__law_are_known_right
  b__law_are_known_right := (fun_mk (st := s__law_are_known_right) l__law_are_known_right c__law_are_known_right k__law_are_known_right).binds (ps := []) fun _ _ _ _ _ _ us hl => match us, hl with | [], _ => rfl
  m__law_are_known_right := PySem.W.mg_of X G a__law_are_known_right
  a_law := f_law
  d_law := _
  f_law := fun_mk (st := s_law) l_law c_law k_law
  b_law := (fun_mk (st := s_law) l_law c_law k_law).binds (ps := ["script"]) fun _ _ _ _ _ _ us hl => match us, hl with | [_], _ => rfl
  m_law := PySem.W.mg_of X G a_law
  a_WITH_OTHER := f_WITH_OTHER
  m_WITH_OTHER := PySem.W.mg_of X G a_WITH_OTHER
  r_WITH_OTHER := rep_txts (its := [.str "answered" t0_WITH_OTHER, .str "ahead" t1_WITH_OTHER]) l_WITH_OTHER (.cons ⟨_, rfl⟩ (.cons ⟨_, rfl⟩ .nil)) (by simp)
  z_abs := PySem.W.mg_none_of X G z_abs
  z_all := PySem.W.mg_none_of X G z_all
  z_any := PySem.W.mg_none_of X G z_any
  z_bool := PySem.W.mg_none_of X G z_bool
  z_int := PySem.W.mg_none_of X G z_int
  z_isinstance := PySem.W.mg_none_of X G z_isinstance
  z_len := PySem.W.mg_none_of X G z_len
  z_max := PySem.W.mg_none_of X G z_max
  z_min := PySem.W.mg_none_of X G z_min
  z_range := PySem.W.mg_none_of X G z_range
  z_tuple := PySem.W.mg_none_of X G z_tuple
  z_zip := PySem.W.mg_none_of X G z_zip
end
end Lk18
open PySem PySem.W PyProof.Rows
theorem Lk18.all_law {l : PySem.W.OpenLaw} {w : World} {K : PySem.W.Frag} {h : Heap} {mg : Str → Option Value} {fa : Addr} (hfa : mg "law" = some (.ref fa)) (T : Lk18.Tx K mg) :
    ∃ fd : FuncData, (∀ (s : Shared) (v : Value), BindsTo s fd ⟨[v], []⟩ [("script", v)]) ∧ ∀ base : Heap, K.In base → base.Ns mainGlobals mg → L2.FnOk l.prog w K mg base L2.CX0 8 fa fd ["script"] (SC.spTop K) := by
  have e := hfa.symm.trans T.m_law
  cases e
  refine ⟨T.d_law, fun s v => ?_, fun base _ _ => (Lk18.ok_law T).imp SC.top_imp⟩
  obtain ⟨_, _, _, _, _, _, _, _, _, q, _, _⟩ := T.f_law.ex
  rw [q]
  exact .of_eq rfl
set_option maxHeartbeats 0 in
theorem PySem.Challenge.cw_steadycraft_k18_whole_counts_by_the_word_holds : PySem.Challenge.rw_steadycraft_k18_whole_counts_by_the_word.Holds := by
  w_on; o_law; k_head; (case hw => w_witness2)
  k_fill
  refine L2.walk_of (l := PySem.Challenge.rw_steadycraft_k18_whole_counts_by_the_word) (n := 63) (k := 8) (x := "script") (CX := fun _ => L2.CX0) (sp := fun w => SC.spTop _) rfl (by decide) rfl ⟨rfl, by decide, by decide⟩ (fun w h Y => PySem.W.kIn_of Y) ?F (fun _ _ a ns hl _ hS => ⟨a, ns, rfl, hS, hl, fun _ => rfl⟩) (fun _ _ _ _ _ h => h)
  case F =>
    intro w mg fa h KX G hmg
    refine' Lk18.all_law (h := h) hmg (Lk18.mkT KX G ?a_in_box ?l_in_box ?c_in_box ?k_in_box ?a_in_area ?l_in_area ?c_in_area ?k_in_area ?a_marks ?l_marks ?c_marks ?k_marks ?a_ahead_count ?l_ahead_count ?c_ahead_count ?k_ahead_count ?a_count_at_first ?l_count_at_first ?c_count_at_first ?k_count_at_first ?a_unless_above ?l_unless_above ?c_unless_above ?k_unless_above ?a_next_waiting ?l_next_waiting ?c_next_waiting ?k_next_waiting ?a_next_count ?l_next_count ?c_next_count ?k_next_count ?a_begun_by ?l_begun_by ?c_begun_by ?k_begun_by ?a_counted_by ?l_counted_by ?c_counted_by ?k_counted_by ?a_begun ?l_begun ?c_begun ?k_begun ?a_counted ?l_counted ?c_counted ?k_counted ?a__law_hand ?l__law_hand ?c__law_hand ?k__law_hand ?a__law_draw ?l__law_draw ?c__law_draw ?k__law_draw ?a__law_some ?l__law_some ?c__law_some ?k__law_some ?a__law_in ?l__law_in ?c__law_in ?k__law_in ?a__law_breaks ?l__law_breaks ?c__law_breaks ?k__law_breaks ?a__law_box ?l__law_box ?c__law_box ?k__law_box ?a__law_area ?l__law_area ?c__law_area ?k__law_area ?a__law_wish ?l__law_wish ?c__law_wish ?k__law_wish ?a__law_places ?l__law_places ?c__law_places ?k__law_places ?a__law_count ?l__law_count ?c__law_count ?k__law_count ?a__law_is ?l__law_is ?c__law_is ?k__law_is ?a__law_is_walk_right ?l__law_is_walk_right ?c__law_is_walk_right ?k__law_is_walk_right ?a__law_are_known_right ?l__law_are_known_right ?c__law_are_known_right ?k__law_are_known_right ?a_law ?l_law ?c_law ?k_law ?a_WITH_OTHER ?l_WITH_OTHER ?z_abs ?z_all ?z_any ?z_bool ?z_int ?z_isinstance ?z_len ?z_max ?z_min ?z_range ?z_tuple ?z_zip)
    (case a_in_box => k_is); (case l_in_box => k_is); (case c_in_box => k_is); (case k_in_box => k_is); (case a_in_area => k_is); (case l_in_area => k_is); (case c_in_area => k_is); (case k_in_area => k_is); (case a_marks => k_is); (case l_marks => k_is); (case c_marks => k_is); (case k_marks => k_is); (case a_ahead_count => k_is); (case l_ahead_count => k_is); (case c_ahead_count => k_is); (case k_ahead_count => k_is); (case a_count_at_first => k_is); (case l_count_at_first => k_is); (case c_count_at_first => k_is); (case k_count_at_first => k_is); (case a_unless_above => k_is); (case l_unless_above => k_is); (case c_unless_above => k_is); (case k_unless_above => k_is); (case a_next_waiting => k_is); (case l_next_waiting => k_is); (case c_next_waiting => k_is); (case k_next_waiting => k_is); (case a_next_count => k_is); (case l_next_count => k_is); (case c_next_count => k_is); (case k_next_count => k_is); (case a_begun_by => k_is); (case l_begun_by => k_is); (case c_begun_by => k_is); (case k_begun_by => k_is); (case a_counted_by => k_is); (case l_counted_by => k_is); (case c_counted_by => k_is); (case k_counted_by => k_is); (case a_begun => k_is); (case l_begun => k_is); (case c_begun => k_is); (case k_begun => k_is); (case a_counted => k_is); (case l_counted => k_is); (case c_counted => k_is); (case k_counted => k_is); (case a__law_hand => k_is); (case l__law_hand => k_is); (case c__law_hand => k_is); (case k__law_hand => k_is); (case a__law_draw => k_is); (case l__law_draw => k_is); (case c__law_draw => k_is); (case k__law_draw => k_is); (case a__law_some => k_is); (case l__law_some => k_is); (case c__law_some => k_is); (case k__law_some => k_is); (case a__law_in => k_is); (case l__law_in => k_is); (case c__law_in => k_is); (case k__law_in => k_is); (case a__law_breaks => k_is); (case l__law_breaks => k_is); (case c__law_breaks => k_is); (case k__law_breaks => k_is); (case a__law_box => k_is); (case l__law_box => k_is); (case c__law_box => k_is); (case k__law_box => k_is); (case a__law_area => k_is); (case l__law_area => k_is); (case c__law_area => k_is); (case k__law_area => k_is); (case a__law_wish => k_is); (case l__law_wish => k_is); (case c__law_wish => k_is); (case k__law_wish => k_is); (case a__law_places => k_is); (case l__law_places => k_is); (case c__law_places => k_is); (case k__law_places => k_is); (case a__law_count => k_is); (case l__law_count => k_is); (case c__law_count => k_is); (case k__law_count => k_is); (case a__law_is => k_is); (case l__law_is => k_is); (case c__law_is => k_is); (case k__law_is => k_is); (case a__law_is_walk_right => k_is); (case l__law_is_walk_right => k_is); (case c__law_is_walk_right => k_is); (case k__law_is_walk_right => k_is); (case a__law_are_known_right => k_is); (case l__law_are_known_right => k_is); (case c__law_are_known_right => k_is); (case k__law_are_known_right => k_is); (case a_law => k_is); (case l_law => k_is); (case c_law => k_is); (case k_law => k_is); (case a_WITH_OTHER => k_is); (case l_WITH_OTHER => k_is); (case z_abs => k_is); (case z_all => k_is); (case z_any => k_is); (case z_bool => k_is); (case z_int => k_is); (case z_isinstance => k_is); (case z_len => k_is); (case z_max => k_is); (case z_min => k_is); (case z_range => k_is); (case z_tuple => k_is); (case z_zip => k_is)
