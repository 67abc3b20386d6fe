import PyProof.Rows.All
import Wide.All
import OpenK.AllK
import Wide.FinOn
import HandS.ForMost
import HandS.Flow
import HandS.Star
import HandS.Style
import HandS.IsInst
import HandS.TupAny
import HandS.Deep
import HandS.Conv
import HandS.Codes
import KE.KStateDown
import HandS.Exc
import HandS.More
import HandS.Words
import HandS.WordsExc
import HandS.Defaults
import HandS.Head0
import HandS.Head1
import HandS.Head2
import HandS.HeadEnd
import HandS.HeadHook1
import HandS.HeadHook2
import HandS.GenCall
import HandS.GenList
import PySem.Challenge.RW_lyingstandins_k06_way
set_option Elab.async false
set_option linter.all false
set_option maxRecDepth 100000
set_option maxHeartbeats 4000000
namespace FL
open PySem L2

/-! ### data: what a value is worth, as a tree -/
inductive D where
  | non | bl (b : Bool) | int (i : Int) | str (x : Str) | tup (xs : List D) | lst (xs : List D) | klst (xs : List D) | obj (i : Nat)
  deriving Inhabited

mutual
inductive Rp (K : PySem.W.Frag) (φ : Nat → Addr) (H : Hp) : D → V → Prop
  | non : Rp K φ H .non .non
  | bl (b : Bool) : Rp K φ H (.bl b) (.bl b)
  | int (i : Int) : Rp K φ H (.int i) (.int i)
  | str (x : Str) : Rp K φ H (.str x) (.str x)
  | tup {a : Addr} {vs : List V} {ds : List D} : SqT K H a vs → RpAll K φ H ds vs → Rp K φ H (.tup ds) (.ref a)
  | lst {a : Addr} {vs : List V} {ds : List D} : H a = some (.lst vs) → RpAll K φ H ds vs → Rp K φ H (.lst ds) (.ref a)
  | klst {a : Addr} {vs : List V} {ds : List D} : SqL K H a vs → RpAll K φ H ds vs → Rp K φ H (.klst ds) (.ref a)
  | obj (i : Nat) : Rp K φ H (.obj i) (.ref (φ i))
inductive RpAll (K : PySem.W.Frag) (φ : Nat → Addr) (H : Hp) : List D → List V → Prop
  | nil : RpAll K φ H [] []
  | cons {d : D} {v : V} {ds : List D} {vs : List V} : Rp K φ H d v → RpAll K φ H ds vs → RpAll K φ H (d :: ds) (v :: vs)
end

section
variable {K : PySem.W.Frag} {φ : Nat → Addr} {H H' : Hp}
theorem SqT_same {a : Addr} {xs : List V} (e : Same H H') (h : SqT K H a xs) : SqT K H' a xs := by
  rcases h with (h | ⟨o, h⟩) | h
  · exact .inl (.inl (e _ _ h))
  · exact .inl (.inr ⟨o, e _ _ h⟩)
  · exact .inr h
mutual
theorem Rp.mono (e : Same H H') : ∀ {d : D} {v : V}, Rp K φ H d v → Rp K φ H' d v
  | _, _, .non => .non
  | _, _, .bl b => .bl b
  | _, _, .int i => .int i
  | _, _, .str x => .str x
  | _, _, .tup s r => .tup (SqT_same e s) (RpAll.mono e r)
  | _, _, .lst s r => .lst (e _ _ s) (RpAll.mono e r)
  | _, _, .klst s r => .klst (e.seq s) (RpAll.mono e r)
  | _, _, .obj i => .obj i
theorem RpAll.mono (e : Same H H') : ∀ {ds : List D} {vs : List V}, RpAll K φ H ds vs → RpAll K φ H' ds vs
  | _, _, .nil => .nil
  | _, _, .cons r t => .cons (r.mono e) (RpAll.mono e t)
end
theorem RpAll.length : ∀ {ds : List D} {vs : List V}, RpAll K φ H ds vs → ds.length = vs.length
  | _, _, .nil => rfl
  | _, _, .cons _ t => by simp [RpAll.length t]
theorem RpAll.get : ∀ {ds : List D} {vs : List V} {i : Nat} {d : D}, RpAll K φ H ds vs → ds[i]? = some d → ∃ v, vs[i]? = some v ∧ Rp K φ H d v
  | _, _, _, _, .nil, e => by simp at e
  | _, _, 0, _, .cons r _, e => by simp at e; subst e; exact ⟨_, rfl, r⟩
  | _, _, i + 1, d, .cons _ t, e => by
    obtain ⟨u, h1, h2⟩ := RpAll.get (i := i) (d := d) t (by simpa using e)
    exact ⟨u, by simpa using h1, h2⟩
theorem RpAll.append : ∀ {xs ys : List D} {us ws : List V}, RpAll K φ H xs us → RpAll K φ H ys ws → RpAll K φ H (xs ++ ys) (us ++ ws)
  | _, _, _, _, .nil, s => s
  | _, _, _, _, .cons r t, s => .cons r (RpAll.append t s)
theorem RpAll.one {d : D} {v : V} (r : Rp K φ H d v) : RpAll K φ H [d] [v] := .cons r .nil
theorem RpAll.take : ∀ {xs : List D} {us : List V} (n : Nat), RpAll K φ H xs us → RpAll K φ H (xs.take n) (us.take n)
  | _, _, 0, _ => .nil
  | _, _, _ + 1, .nil => .nil
  | _, _, n + 1, .cons r t => .cons r (RpAll.take n t)
theorem RpAll.drop : ∀ {xs : List D} {us : List V} (n : Nat), RpAll K φ H xs us → RpAll K φ H (xs.drop n) (us.drop n)
  | _, _, 0, r => r
  | _, _, _ + 1, .nil => .nil
  | _, _, n + 1, .cons _ t => RpAll.drop n t
theorem RpAll.set : ∀ {xs : List D} {us : List V} (n : Nat) {d : D} {v : V}, RpAll K φ H xs us → Rp K φ H d v → RpAll K φ H (xs.set n d) (us.set n v)
  | _, _, _, _, _, .nil, _ => .nil
  | _, _, 0, _, _, .cons _ t, r => .cons r t
  | _, _, n + 1, _, _, .cons q t, r => .cons q (RpAll.set n t r)
theorem RpAll.eraseIdx : ∀ {xs : List D} {us : List V} (n : Nat), RpAll K φ H xs us → RpAll K φ H (xs.eraseIdx n) (us.eraseIdx n)
  | _, _, _, .nil => .nil
  | _, _, 0, .cons _ t => t
  | _, _, n + 1, .cons q t => .cons q (RpAll.eraseIdx n t)
theorem RpAll.reverse : ∀ {xs : List D} {us : List V}, RpAll K φ H xs us → RpAll K φ H xs.reverse us.reverse
  | _, _, .nil => .nil
  | _, _, .cons r t => by
    rw [List.reverse_cons, List.reverse_cons]
    exact (RpAll.reverse t).append (.one r)
end

/-! ### two heaps: what is fixed for good (Hf), and all (H) -/
structure Gr (Hf H Hf' H' : Hp) : Prop where
  f : Same Hf Hf'
  h : Same H H'
  s : Same Hf' H'
  n : ∀ a o, H a = some o → Hf a = none → Hf' a = none
section
variable {Hf H Hf1 H1 Hf2 H2 : Hp}
theorem Gr.refl (s : Same Hf H) : Gr Hf H Hf H := ⟨Same.refl _, Same.refl _, s, fun _ _ _ h => h⟩
theorem Gr.trans (a : Gr Hf H Hf1 H1) (b : Gr Hf1 H1 Hf2 H2) : Gr Hf H Hf2 H2 :=
  ⟨a.f.trans b.f, a.h.trans b.h, b.s, fun x o h1 h2 => b.n x o (a.h _ _ h1) (a.n x o h1 h2)⟩
theorem same_upd {H : Hp} {p : Addr} {o : HO} (h : H p = none) : Same H (upd H p o) := fun b u e => by
  rw [upd_ne (ne_of_none e h)]; exact e
/-- a new object that is fixed for good -/
theorem Gr.new (s : Same Hf H) {p : Addr} {o : HO} (hp : H p = none) : Gr Hf H (upd Hf p o) (upd H p o) := by
  have hf : Hf p = none := s.free hp
  refine ⟨same_upd hf, same_upd hp, fun b u e => ?_, fun a u h1 h2 => ?_⟩
  · by_cases hb : b = p
    · subst hb; rw [upd_same] at e ⊢; exact e
    · rw [upd_ne hb] at e ⊢; exact s _ _ e
  · rw [upd_ne (ne_of_none h1 hp)]; exact h2
/-- a new object of our own -/
theorem Gr.own (s : Same Hf H) {p : Addr} {o : HO} (hp : H p = none) : Gr Hf H Hf (upd H p o) :=
  ⟨Same.refl _, same_upd hp, s.trans (same_upd hp), fun _ _ _ h => h⟩
end

/-! ### the slots -/
abbrev Env := List (Option D)
/-- H0, Hf0: at the def's entry; O: the slots that hold lists of our own -/
structure SR (K : PySem.W.Frag) (φ : Nat → Addr) (Hf0 H0 : Hp) (O : List Nat) (ρ : Env) (σ : St) (Hf H : Hp) : Prop where
  len : ρ.length = σ.length
  sub : Same Hf H
  gf : Same Hf0 Hf
  gh : Same H0 H
  gn : ∀ a o, H0 a = some o → Hf0 a = none → Hf a = none
  val : ∀ i d, ρ[i]? = some (some d) → i ∉ O → ∃ v, σ[i]? = some (some v) ∧ Rp K φ Hf d v
  own : ∀ i d, ρ[i]? = some (some d) → i ∈ O → ∃ a xs vs, d = .lst xs ∧ σ[i]? = some (some (.ref a)) ∧ H a = some (.lst vs) ∧ Hf a = none ∧ H0 a = none ∧ RpAll K φ Hf xs vs
  ne : ∀ i j d e a, ρ[i]? = some (some d) → ρ[j]? = some (some e) → i ∈ O → j ∈ O → i ≠ j → σ[i]? = some (some (.ref a)) → σ[j]? ≠ some (some (.ref a))
section
variable {K : PySem.W.Frag} {φ : Nat → Addr} {Hf0 H0 Hf H Hf' H' : Hp} {O : List Nat} {ρ : Env} {σ : St}
theorem SR.gr (S : SR K φ Hf0 H0 O ρ σ Hf H) (g : Gr Hf H Hf' H') : SR K φ Hf0 H0 O ρ σ Hf' H' := by
  refine ⟨S.len, g.s, S.gf.trans g.f, S.gh.trans g.h, fun a o h1 h2 => ?_, fun i d e n => ?_, fun i d e m => ?_, S.ne⟩
  · exact g.n a o (S.gh _ _ h1) (S.gn a o h1 h2)
  · obtain ⟨v, e1, r⟩ := S.val i d e n
    exact ⟨v, e1, r.mono g.f⟩
  · obtain ⟨a, xs, vs, e1, e2, e3, e4, e5, r⟩ := S.own i d e m
    exact ⟨a, xs, vs, e1, e2, g.h _ _ e3, g.n _ _ e3 e4, e5, r.mono g.f⟩
/-- from the entry to here -/
theorem SR.from0 (S : SR K φ Hf0 H0 O ρ σ Hf H) : Gr Hf0 H0 Hf H := ⟨S.gf, S.gh, S.sub, S.gn⟩
/-- a value that is given to a slot -/
theorem SR.set (S : SR K φ Hf0 H0 O ρ σ Hf H) (i : Nat) {d : D} {v : V} (r : Rp K φ Hf d v) : SR K φ Hf0 H0 (O.filter (· != i)) (ρ.set i (some d)) (σ.set i (some v)) Hf H := by
  have mem : ∀ j, j ∈ O.filter (· != i) ↔ j ∈ O ∧ j ≠ i := fun j => by simp [List.mem_filter]
  refine ⟨by simp [S.len], S.sub, S.gf, S.gh, S.gn, fun j e hj hn => ?_, fun j e hj hm => ?_, fun j k e e' a hj hk mj mk hne h1 => ?_⟩
  · by_cases h : j = i
    · subst h
      have hl : j < ρ.length := by
        have := (List.getElem?_eq_some_iff.mp hj).1; simpa using this
      rw [List.getElem?_set_self hl] at hj
      cases hj
      exact ⟨v, List.getElem?_set_self (by rw [← S.len]; exact hl), r⟩
    · rw [List.getElem?_set_ne (Ne.symm h)] at hj ⊢
      exact S.val j e hj fun m => hn ((mem j).mpr ⟨m, h⟩)
  · obtain ⟨m, h⟩ := (mem j).mp hm
    rw [List.getElem?_set_ne (Ne.symm h)] at hj ⊢
    exact S.own j e hj m
  · obtain ⟨m1, n1⟩ := (mem j).mp mj
    obtain ⟨m2, n2⟩ := (mem k).mp mk
    rw [List.getElem?_set_ne (Ne.symm n1)] at hj h1
    rw [List.getElem?_set_ne (Ne.symm n2)] at hk ⊢
    exact S.ne j k e e' a hj hk m1 m2 hne h1
theorem not_mem_filter {i : Nat} (h : i ∉ O) : O.filter (· != i) = O := by
  rw [List.filter_eq_self]
  intro j hj
  simp only [bne_iff_ne, ne_eq]
  rintro rfl
  exact h hj
/-- a list of our own that is given to a slot -/
theorem SR.setOwn (S : SR K φ Hf0 H0 O ρ σ Hf H) (i : Nat) {a : Addr} {xs : List D} {vs : List V} (h1 : H a = some (.lst vs)) (h2 : Hf a = none) (h3 : H0 a = none)
    (h4 : ∀ j d, ρ[j]? = some (some d) → j ∈ O → σ[j]? ≠ some (some (.ref a))) (r : RpAll K φ Hf xs vs) : SR K φ Hf0 H0 (i :: O.filter (· != i)) (ρ.set i (some (.lst xs))) (σ.set i (some (.ref a))) Hf H := by
  have mem : ∀ j, j ∈ i :: O.filter (· != i) ↔ j = i ∨ (j ∈ O ∧ j ≠ i) := fun j => by simp [List.mem_filter]
  have lt : ∀ {j e}, (ρ.set i (some (.lst xs)))[j]? = some (some e) → j < ρ.length := fun {j e} hj => by
    have := (List.getElem?_eq_some_iff.mp hj).1; simpa using this
  refine ⟨by simp [S.len], S.sub, S.gf, S.gh, S.gn, fun j e hj hn => ?_, fun j e hj hm => ?_, fun j k e e' b hj hk mj mk hne q1 => ?_⟩
  · have h : j ≠ i := fun h => hn ((mem j).mpr (.inl h))
    rw [List.getElem?_set_ne (Ne.symm h)] at hj ⊢
    exact S.val j e hj fun m => hn ((mem j).mpr (.inr ⟨m, h⟩))
  · by_cases h : j = i
    · subst h
      have hl := lt hj
      rw [List.getElem?_set_self hl] at hj
      cases hj
      exact ⟨a, xs, vs, rfl, List.getElem?_set_self (by rw [← S.len]; exact hl), h1, h2, h3, r⟩
    · have m : j ∈ O := by rcases (mem j).mp hm with z | z; exact absurd z h; exact z.1
      rw [List.getElem?_set_ne (Ne.symm h)] at hj ⊢
      exact S.own j e hj m
  · by_cases hji : j = i
    · subst hji
      have hl := lt hj
      have hkj : k ≠ j := Ne.symm hne
      have mk' : k ∈ O := by rcases (mem k).mp mk with z | z; exact absurd z hkj; exact z.1
      rw [List.getElem?_set_self (by rw [← S.len]; exact hl)] at q1
      cases q1
      rw [List.getElem?_set_ne hne] at hk ⊢
      exact h4 k e' hk mk'
    · have mj' : j ∈ O := by rcases (mem j).mp mj with z | z; exact absurd z hji; exact z.1
      rw [List.getElem?_set_ne (Ne.symm hji)] at hj q1
      by_cases hki : k = i
      · subst hki
        have hl := lt hk
        rw [List.getElem?_set_self (by rw [← S.len]; exact hl)]
        rintro z
        cases z
        exact h4 j e hj mj' q1
      · have mk' : k ∈ O := by rcases (mem k).mp mk with z | z; exact absurd z hki; exact z.1
        rw [List.getElem?_set_ne (Ne.symm hki)] at hk ⊢
        exact S.ne j k e e' b hj hk mj' mk' hne q1
theorem SR.memEq {O' : List Nat} (S : SR K φ Hf0 H0 O ρ σ Hf H) (m : ∀ i, i ∈ O' ↔ i ∈ O) : SR K φ Hf0 H0 O' ρ σ Hf H :=
  ⟨S.len, S.sub, S.gf, S.gh, S.gn, fun i d e n => S.val i d e fun z => n ((m i).mpr z), fun i d e z => S.own i d e ((m i).mp z), fun i j d e a h1 h2 m1 m2 => S.ne i j d e a h1 h2 ((m i).mp m1) ((m j).mp m2)⟩
/-- a list of our own is fixed for good -/
theorem SR.freeze (S : SR K φ Hf0 H0 O ρ σ Hf H) (i : Nat) : ∃ Hf1, Same Hf Hf1 ∧ SR K φ Hf0 H0 (O.filter (· != i)) ρ σ Hf1 H := by
  have mem : ∀ j, j ∈ O.filter (· != i) ↔ j ∈ O ∧ j ≠ i := fun j => by simp [List.mem_filter]
  have easy : (∀ d, ρ[i]? = some (some d) → i ∉ O) → SR K φ Hf0 H0 (O.filter (· != i)) ρ σ Hf H := fun hno => by
    refine ⟨S.len, S.sub, S.gf, S.gh, S.gn, fun j d e n => ?_, fun j d e m => S.own j d e ((mem j).mp m).1, fun j k d e a h1 h2 m1 m2 => S.ne j k d e a h1 h2 ((mem j).mp m1).1 ((mem k).mp m2).1⟩
    refine S.val j d e fun z => ?_
    by_cases h : j = i
    · subst h; exact hno d e z
    · exact n ((mem j).mpr ⟨z, h⟩)
  by_cases hi : i ∈ O
  · cases hq : ρ[i]? with
    | none => exact ⟨Hf, Same.refl _, easy fun d e => by rw [hq] at e; cases e⟩
    | some od =>
      cases od with
      | none => exact ⟨Hf, Same.refl _, easy fun d e => by rw [hq] at e; cases e⟩
      | some d =>
        obtain ⟨a, xs, vs, e1, e2, e3, e4, e5, r⟩ := S.own i d hq hi
        have sf : Same Hf (upd Hf a (.lst vs)) := same_upd e4
        refine ⟨upd Hf a (.lst vs), sf, S.len, fun b u e => ?_, S.gf.trans sf, S.gh, fun b u h1 h2 => ?_, fun j d' e n => ?_, fun j d' e m => ?_, fun j k d' e' b h1 h2 m1 m2 => S.ne j k d' e' b h1 h2 ((mem j).mp m1).1 ((mem k).mp m2).1⟩
        · by_cases hb : b = a
          · subst hb; rw [upd_same] at e; cases e; exact e3
          · rw [upd_ne hb] at e; exact S.sub _ _ e
        · rw [upd_ne (ne_of_none h1 e5)]; exact S.gn b u h1 h2
        · by_cases h : j = i
          · subst h
            rw [hq] at e; cases e
            subst e1
            exact ⟨.ref a, e2, .lst upd_same (r.mono sf)⟩
          · obtain ⟨v, q1, q2⟩ := S.val j d' e fun z => n ((mem j).mpr ⟨z, h⟩)
            exact ⟨v, q1, q2.mono sf⟩
        · obtain ⟨m1, n1⟩ := (mem j).mp m
          obtain ⟨b, ys, ws, q1, q2, q3, q4, q5, r2⟩ := S.own j d' e m1
          have hba : b ≠ a := by
            rintro rfl
            exact S.ne i j d d' b hq e hi m1 (Ne.symm n1) e2 q2
          exact ⟨b, ys, ws, q1, q2, q3, by rw [upd_ne hba]; exact q4, q5, r2.mono sf⟩
  · exact ⟨Hf, Same.refl _, easy fun _ _ => hi⟩
theorem SR.weak' (S : SR K φ Hf0 H0 O ρ σ Hf H) : ∀ l : List Nat, ∃ Hf1, Same Hf Hf1 ∧ SR K φ Hf0 H0 (O.filter fun j => !l.contains j) ρ σ Hf1 H
  | [] => ⟨Hf, Same.refl _, S.memEq fun i => by simp⟩
  | i :: l => by
    obtain ⟨Hf1, s1, S1⟩ := SR.weak' S l
    obtain ⟨Hf2, s2, S2⟩ := S1.freeze i
    refine ⟨Hf2, s1.trans s2, S2.memEq fun j => ?_⟩
    simp only [List.mem_filter, List.contains_cons, Bool.not_or, Bool.and_eq_true, Bool.not_eq_true', bne_iff_ne, ne_eq, beq_eq_false_iff_ne]
    constructor
    · rintro ⟨a, b, c⟩; exact ⟨⟨a, c⟩, b⟩
    · rintro ⟨⟨a, c⟩, b⟩; exact ⟨a, b, c⟩
/-- all but the slots of L are fixed for good -/
theorem SR.weak (S : SR K φ Hf0 H0 O ρ σ Hf H) (L : List Nat) (hL : L.all (O.contains ·) = true) : ∃ Hf1, Same Hf Hf1 ∧ SR K φ Hf0 H0 L ρ σ Hf1 H := by
  obtain ⟨Hf1, s1, S1⟩ := S.weak' (O.filter fun j => !L.contains j)
  refine ⟨Hf1, s1, S1.memEq fun j => ?_⟩
  have hs : ∀ j ∈ L, j ∈ O := fun j hj => by simpa using (List.all_eq_true.mp hL) j hj
  simp only [List.mem_filter, Bool.not_eq_true', List.contains_eq_mem, decide_eq_false_iff_not]
  constructor
  · intro hj; exact ⟨hs j hj, fun z => by simp_all⟩
  · rintro ⟨a, b⟩
    by_cases h : j ∈ L
    · exact h
    · exact absurd (by simp [a, h]) b
end
end FL
namespace FL
open PySem L2

/-! ### the weakest readings -/
def wE (X : Cx) (e : Expr) : TE := fun σ H Q => ∀ pins s, Inv X pins σ H s → wpAny (model X.prog X.w) X.A (eval e X.env) (EP X pins σ Q) X.xe s
def wT (X : Cx) (e : Expr) : TT := fun σ H Q => ∀ pins s, Inv X pins σ H s → wpAny (model X.prog X.w) X.A (isTrue e X.env (eval e X.env)) (TP X pins σ Q) X.xe s
def wA (X : Cx) (es : List Expr) : TA := fun σ H Q => ∀ pos pins s, Inv X pins σ H s → wpAny (model X.prog X.w) X.A (spliced (backTo pos (starEach es X.env))) (AP X pins σ Q) X.xe s
def wS (X : Cx) (st : Stmt) : TS := fun D σ H => ∀ pins s, Inv X pins σ H s → wpAny (model X.prog X.w) X.A (exec st X.env) (SP X pins D) X.xe s
def wSs (X : Cx) (st : List Stmt) : TS := fun D σ H => ∀ pins s, Inv X pins σ H s → wpAny (model X.prog X.w) X.A (execs st X.env) (SP X pins D) X.xe s
section
variable {X : Cx} {e : Expr} {es : List Expr} {st : Stmt} {sts : List Stmt} {σ : St} {H : Hp}
theorem peW : PE X e (wE X e) := ⟨fun pins s _ _ _ I h => h pins s I⟩
theorem ptW : PT X e (wT X e) := ⟨fun pins s _ _ _ I h => h pins s I⟩
theorem paW : PA X es (wA X es) := ⟨fun pos pins s _ _ _ I h => h pos pins s I⟩
theorem psW : PS X st (wS X st) := ⟨fun pins s _ _ _ I h => h pins s I⟩
theorem pssW : PSs X sts (wSs X sts) := ⟨fun pins s _ _ _ I h => h pins s I⟩
theorem toE {t : TE} (h : PE X e t) {Q : VK} (q : t σ H Q) : wE X e σ H Q := fun pins s I => h.run pins s σ H Q I q
theorem toT {t : TT} (h : PT X e t) {Q : Bool → Hp → Prop} (q : t σ H Q) : wT X e σ H Q := fun pins s I => h.run pins s σ H Q I q
theorem toA {t : TA} (h : PA X es t) {Q : List V → Hp → Prop} (q : t σ H Q) : wA X es σ H Q := fun pos pins s I => h.run pos pins s σ H Q I q
theorem toS {t : TS} (h : PS X st t) {Dn : Ends} (q : t Dn σ H) : wS X st Dn σ H := fun pins s I => h.run pins s σ H Dn I q
theorem toSs {t : TS} (h : PSs X sts t) {Dn : Ends} (q : t Dn σ H) : wSs X sts Dn σ H := fun pins s I => h.run pins s σ H Dn I q
end

/-! ### a value that may be a list of our own -/
def Rpb (K : PySem.W.Frag) (φ : Nat → Addr) (Hf H : Hp) (d : D) (v : V) : Prop :=
  Rp K φ Hf d v ∨ ∃ a xs vs, d = .lst xs ∧ v = .ref a ∧ H a = some (.lst vs) ∧ RpAll K φ Hf xs vs
inductive RpbAll (K : PySem.W.Frag) (φ : Nat → Addr) (Hf H : Hp) : List D → List V → Prop
  | nil : RpbAll K φ Hf H [] []
  | cons {d : D} {v : V} {ds : List D} {vs : List V} : Rpb K φ Hf H d v → RpbAll K φ Hf H ds vs → RpbAll K φ Hf H (d :: ds) (v :: vs)
section
variable {K : PySem.W.Frag} {φ : Nat → Addr} {Hf H Hf' H' : Hp} {d : D} {v : V}
theorem Rpb.gr (g : Gr Hf H Hf' H') (r : Rpb K φ Hf H d v) : Rpb K φ Hf' H' d v := by
  rcases r with r | ⟨a, xs, vs, h1, h2, h3, h4⟩
  · exact .inl (r.mono g.f)
  · exact .inr ⟨a, xs, vs, h1, h2, g.h _ _ h3, h4.mono g.f⟩
/-- over all that there is -/
theorem Rpb.all (s : Same Hf H) (r : Rpb K φ Hf H d v) : Rp K φ H d v := by
  rcases r with r | ⟨a, xs, vs, h1, h2, h3, h4⟩
  · exact r.mono s
  · subst h1 h2; exact .lst h3 (h4.mono s)
theorem RpbAll.gr (g : Gr Hf H Hf' H') : ∀ {ds : List D} {vs : List V}, RpbAll K φ Hf H ds vs → RpbAll K φ Hf' H' ds vs
  | _, _, .nil => .nil
  | _, _, .cons r t => .cons (r.gr g) (RpbAll.gr g t)
/-- a value that is no object -/
def scal : D → Bool
  | .non => true | .bl _ => true | .int _ => true | .str _ => true | _ => false
theorem Rp.scal (r : Rp K φ Hf d v) (h : scal d = true) : Rp K φ Hf' d v := by
  cases r <;> first | exact .non | exact .bl _ | exact .int _ | exact .str _ | cases h
end

/-! ### expressions -/
def FE (X : Cx) (O : List Nat) (e : Expr) (F : Env → Option D) : Prop :=
  ∀ (φ : Nat → Addr) (Hf0 H0 : Hp) (ρ : Env) (σ : St) (Hf H : Hp) (d : D) (Q : VK), SR X.K φ Hf0 H0 O ρ σ Hf H → F ρ = some d → (∀ v Hf' H', Gr Hf H Hf' H' → Rp X.K φ Hf' d v → Q v H') → wE X e σ H Q
/-- .. that may be a list of our own -/
def FB (X : Cx) (O : List Nat) (e : Expr) (F : Env → Option D) : Prop :=
  ∀ (φ : Nat → Addr) (Hf0 H0 : Hp) (ρ : Env) (σ : St) (Hf H : Hp) (d : D) (Q : VK), SR X.K φ Hf0 H0 O ρ σ Hf H → F ρ = some d → (∀ v Hf' H', Gr Hf H Hf' H' → Rpb X.K φ Hf' H' d v → Q v H') → wE X e σ H Q
/-- .. that is a new list -/
def FN (X : Cx) (O : List Nat) (e : Expr) (F : Env → Option D) : Prop :=
  ∀ (φ : Nat → Addr) (Hf0 H0 : Hp) (ρ : Env) (σ : St) (Hf H : Hp) (d : D) (Q : VK), SR X.K φ Hf0 H0 O ρ σ Hf H → F ρ = some d →
    (∀ a xs vs Hf' H', d = .lst xs → Gr Hf H Hf' H' → H a = none → Hf' a = none → H' a = some (.lst vs) → RpAll X.K φ Hf' xs vs → Q (.ref a) H') → wE X e σ H Q
def FT (X : Cx) (O : List Nat) (e : Expr) (F : Env → Option Bool) : Prop :=
  ∀ (φ : Nat → Addr) (Hf0 H0 : Hp) (ρ : Env) (σ : St) (Hf H : Hp) (b : Bool) (Q : Bool → Hp → Prop), SR X.K φ Hf0 H0 O ρ σ Hf H → F ρ = some b → (∀ Hf' H', Gr Hf H Hf' H' → Q b H') → wT X e σ H Q
def FA (X : Cx) (O : List Nat) (es : List Expr) (F : Env → Option (List D)) : Prop :=
  ∀ (φ : Nat → Addr) (Hf0 H0 : Hp) (ρ : Env) (σ : St) (Hf H : Hp) (ds : List D) (Q : List V → Hp → Prop), SR X.K φ Hf0 H0 O ρ σ Hf H → F ρ = some ds → (∀ vs Hf' H', Gr Hf H Hf' H' → RpAll X.K φ Hf' ds vs → Q vs H') → wA X es σ H Q
def FBA (X : Cx) (O : List Nat) (es : List Expr) (F : Env → Option (List D)) : Prop :=
  ∀ (φ : Nat → Addr) (Hf0 H0 : Hp) (ρ : Env) (σ : St) (Hf H : Hp) (ds : List D) (Q : List V → Hp → Prop), SR X.K φ Hf0 H0 O ρ σ Hf H → F ρ = some ds → (∀ vs Hf' H', Gr Hf H Hf' H' → RpbAll X.K φ Hf' H' ds vs → Q vs H') → wA X es σ H Q

/-! ### the mirror's words -/
def eVar (i : Nat) : Env → Option D := fun ρ => match ρ[i]? with | some (some d) => some d | _ => none
def eC (d : D) : Env → Option D := fun _ => some d
def e1 (f : D → Option D) (F : Env → Option D) : Env → Option D := fun ρ => match F ρ with | some d => f d | none => none
def e2 (f : D → D → Option D) (F G : Env → Option D) : Env → Option D := fun ρ => match F ρ with | some d => (match G ρ with | some e => f d e | none => none) | none => none
def eL (f : List D → Option D) (F : Env → Option (List D)) : Env → Option D := fun ρ => match F ρ with | some ds => f ds | none => none
def aNil : Env → Option (List D) := fun _ => some []
def aCons (F : Env → Option D) (G : Env → Option (List D)) : Env → Option (List D) := fun ρ => match F ρ with | some d => (match G ρ with | some ds => some (d :: ds) | none => none) | none => none
def seqD : D → Option (List D)
  | .lst xs => some xs | .klst xs => some xs | .tup xs => some xs | _ => none
def aStar (F : Env → Option D) (G : Env → Option (List D)) : Env → Option (List D) := fun ρ => match F ρ with
  | some d => (match seqD d with | some xs => (match G ρ with | some ds => some (xs ++ ds) | none => none) | none => none) | none => none
def tupD (ds : List D) : Option D := if ds.length ≤ sizeLine then some (.tup ds) else none
def lstD (ds : List D) : Option D := if ds.length ≤ sizeLine then some (.lst ds) else none
def tB (f : D → Option Bool) (F : Env → Option D) : Env → Option Bool := fun ρ => match F ρ with | some d => f d | none => none
def tNot (F : Env → Option Bool) : Env → Option Bool := fun ρ => match F ρ with | some b => some (!b) | none => none
def tAnd (F G : Env → Option Bool) : Env → Option Bool := fun ρ => match F ρ with | some true => G ρ | some false => some false | none => none
def tOr (F G : Env → Option Bool) : Env → Option Bool := fun ρ => match F ρ with | some true => some true | some false => G ρ | none => none
def eIf (C : Env → Option Bool) (F G : Env → Option D) : Env → Option D := fun ρ => match C ρ with | some true => F ρ | some false => G ρ | none => none
def eScal (F : Env → Option D) : Env → Option D := fun ρ => match F ρ with | some d => if scal d = true then some d else none | none => none
def blD : D → Option Bool
  | .bl b => some b | _ => none
def truD : D → Option Bool
  | .non => some false | .bl b => some b | .int i => some (i != 0)
  | .str y => if y.length ≤ sizeLine then some ((y.length : Int) != 0) else none
  | .lst xs => some (!xs.isEmpty) | .klst xs => some (!xs.isEmpty) | .tup xs => some (!xs.isEmpty) | .obj _ => none

section
variable {X : Cx} {O : List Nat} {e a b : Expr} {es : List Expr} {pos : Pos} {F G : Env → Option D} {Fs : Env → Option (List D)}
theorem e1_some {f : D → Option D} {ρ : Env} {d : D} (h : e1 f F ρ = some d) : ∃ x, F ρ = some x ∧ f x = some d := by
  unfold e1 at h; cases q : F ρ with
  | none => rw [q] at h; cases h
  | some x => rw [q] at h; exact ⟨x, rfl, h⟩
theorem e2_some {f : D → D → Option D} {ρ : Env} {d : D} (h : e2 f F G ρ = some d) : ∃ x y, F ρ = some x ∧ G ρ = some y ∧ f x y = some d := by
  unfold e2 at h; cases q : F ρ with
  | none => rw [q] at h; cases h
  | some x =>
    rw [q] at h
    cases q2 : G ρ with
    | none => simp only [q2] at h; cases h
    | some y => simp only [q2] at h; exact ⟨x, y, rfl, rfl, h⟩
theorem eL_some {f : List D → Option D} {ρ : Env} {d : D} (h : eL f Fs ρ = some d) : ∃ x, Fs ρ = some x ∧ f x = some d := by
  unfold eL at h; cases q : Fs ρ with
  | none => rw [q] at h; cases h
  | some x => rw [q] at h; exact ⟨x, rfl, h⟩
theorem tB_some {f : D → Option Bool} {ρ : Env} {d : Bool} (h : tB f F ρ = some d) : ∃ x, F ρ = some x ∧ f x = some d := by
  unfold tB at h; cases q : F ρ with
  | none => rw [q] at h; cases h
  | some x => rw [q] at h; exact ⟨x, rfl, h⟩

theorem fb_of (h : FE X O e F) : FB X O e F := fun φ Hf0 H0 ρ σ Hf H d Q S hF k => h φ Hf0 H0 ρ σ Hf H d Q S hF fun v Hf' H' g r => k v Hf' H' g (.inl r)
theorem fe_of_fn (h : FN X O e F) : FE X O e F := fun φ Hf0 H0 ρ σ Hf H d Q S hF k => h φ Hf0 H0 ρ σ Hf H d Q S hF fun a xs vs Hf' H' hd g h1 h2 h3 r => by
  subst hd
  have sf : Same Hf' (upd Hf' a (.lst vs)) := same_upd h2
  refine k (.ref a) (upd Hf' a (.lst vs)) H' ⟨g.f.trans sf, g.h, fun b u q => ?_, fun b u q1 q2 => ?_⟩ (.lst upd_same (r.mono sf))
  · by_cases hb : b = a
    · subst hb; rw [upd_same] at q; cases q; exact h3
    · rw [upd_ne hb] at q; exact g.s _ _ q
  · rw [upd_ne (ne_of_none q1 h1)]; exact g.n b u q1 q2
theorem fb_of_fn (h : FN X O e F) : FB X O e F := fb_of (fe_of_fn h)

theorem fb_var {i : Nat} {x : Str} (hN : X.N[i]? = some x) (hv : Vis X.env.scope x) (hd : (x == ("__debug__" : Str)) = false := by decide +kernel) (hcd : (x == ("__classdict__" : Str)) = false := by decide +kernel) : FB X O (.Name x pos) (eVar i) := by
  intro φ Hf0 H0 ρ σ Hf H d Q S hF k
  have hq : ρ[i]? = some (some d) := by
    unfold eVar at hF
    split at hF
    · rename_i d' h; cases hF; exact h
    · cases hF
  refine toE (pe_var hN hv hd hcd) ?_
  by_cases hi : i ∈ O
  · obtain ⟨a, xs, vs, e1, e2, e3, e4, e5, r⟩ := S.own i d hq hi
    exact ⟨_, e2, k _ Hf H (.refl S.sub) (.inr ⟨a, xs, vs, e1, rfl, e3, r⟩)⟩
  · obtain ⟨v, e1, r⟩ := S.val i d hq hi
    exact ⟨v, e1, k v Hf H (.refl S.sub) (.inl r)⟩
theorem fe_var {i : Nat} {x : Str} (hN : X.N[i]? = some x) (hv : Vis X.env.scope x) (hO : O.contains i = false) (hd : (x == ("__debug__" : Str)) = false := by decide +kernel) (hcd : (x == ("__classdict__" : Str)) = false := by decide +kernel) : FE X O (.Name x pos) (eVar i) := by
  intro φ Hf0 H0 ρ σ Hf H d Q S hF k
  have hq : ρ[i]? = some (some d) := by
    unfold eVar at hF
    split at hF
    · rename_i d' h; cases hF; exact h
    · cases hF
  refine toE (pe_var hN hv hd hcd) ?_
  have hi : i ∉ O := by simpa using hO
  obtain ⟨v, e1, r⟩ := S.val i d hq hi
  exact ⟨v, e1, k v Hf H (.refl S.sub) r⟩
theorem fe_int {i : Int} {j} : FE X O (.Constant (.int i) j pos) (eC (.int i)) := fun φ Hf0 H0 ρ σ Hf H d Q S hF k => by cases hF; exact toE pe_int (k _ Hf H (.refl S.sub) (.int i))
theorem fe_bl {i : Bool} {j} : FE X O (.Constant (.bool i) j pos) (eC (.bl i)) := fun φ Hf0 H0 ρ σ Hf H d Q S hF k => by cases hF; exact toE pe_bl (k _ Hf H (.refl S.sub) (.bl i))
theorem fe_non {j} : FE X O (.Constant .none j pos) (eC .non) := fun φ Hf0 H0 ρ σ Hf H d Q S hF k => by cases hF; exact toE pe_non (k _ Hf H (.refl S.sub) .non)
theorem fe_str {x : Str} {j} : FE X O (.Constant (.str x) j pos) (eC (.str x)) := fun φ Hf0 H0 ρ σ Hf H d Q S hF k => by cases hF; exact toE pe_str (k _ Hf H (.refl S.sub) (.str x))
/-- a constant of the module -/
def RpK (K : PySem.W.Frag) (d : D) (v : V) : Prop := ∀ φ H, Rp K φ H d v
theorem fe_glob {x : Str} {d : D} (hg : Gl X x) (h : ∃ u v, X.mg x = some u ∧ RelV v u ∧ RpK X.K d v) (hd : (x == ("__debug__" : Str)) = false := by decide +kernel) : FE X O (.Name x pos) (eC d) := by
  intro φ Hf0 H0 ρ σ Hf H d' Q S hF k
  cases hF
  obtain ⟨u, v, h1, h2, h3⟩ := h
  exact toE (pe_glob hg h1 h2 hd) (k v Hf H (.refl S.sub) (h3 φ Hf))

theorem fa_nil : FA X O [] aNil := fun φ Hf0 H0 ρ σ Hf H d Q S hF k => by cases hF; exact toA pa_nil (k [] Hf H (.refl S.sub) .nil)
theorem fa_cons (h : FE X O e F) (t : FA X O es Fs) (hs : starEach (e :: es) X.env = (false, eval e X.env) :: starEach es X.env := by rfl) : FA X O (e :: es) (aCons F Fs) := by
  intro φ Hf0 H0 ρ σ Hf H ds Q S hF k
  unfold aCons at hF
  split at hF
  · rename_i d h1
    split at hF
    · rename_i ds' h2
      cases hF
      refine toA (pa_cons (peW (e := e)) (paW (es := es)) hs) ?_
      refine h φ Hf0 H0 ρ σ Hf H d _ S h1 fun v Hf1 H1 g1 r1 => ?_
      refine t φ Hf0 H0 ρ σ Hf1 H1 ds' _ (S.gr g1) h2 fun vs Hf2 H2 g2 r2 => ?_
      exact k (v :: vs) Hf2 H2 (g1.trans g2) (.cons (r1.mono g2.f) r2)
    · cases hF
  · cases hF
theorem fba_nil : FBA X O [] aNil := fun φ Hf0 H0 ρ σ Hf H d Q S hF k => by cases hF; exact toA pa_nil (k [] Hf H (.refl S.sub) .nil)
theorem fba_cons (h : FB X O e F) (t : FBA X O es Fs) (hs : starEach (e :: es) X.env = (false, eval e X.env) :: starEach es X.env := by rfl) : FBA X O (e :: es) (aCons F Fs) := by
  intro φ Hf0 H0 ρ σ Hf H ds Q S hF k
  unfold aCons at hF
  split at hF
  · rename_i d h1
    split at hF
    · rename_i ds' h2
      cases hF
      refine toA (pa_cons (peW (e := e)) (paW (es := es)) hs) ?_
      refine h φ Hf0 H0 ρ σ Hf H d _ S h1 fun v Hf1 H1 g1 r1 => ?_
      refine t φ Hf0 H0 ρ σ Hf1 H1 ds' _ (S.gr g1) h2 fun vs Hf2 H2 g2 r2 => ?_
      exact k (v :: vs) Hf2 H2 (g1.trans g2) (.cons (r1.gr g2) r2)
    · cases hF
  · cases hF
theorem Rpb.seq {K : PySem.W.Frag} {φ : Nat → Addr} {Hf H : Hp} {d : D} {v : V} {xs : List D} (s : Same Hf H) (r : Rpb K φ Hf H d v) (h : seqD d = some xs) : ∃ p vs, v = .ref p ∧ (SqL K H p vs ∨ SqT K H p vs) ∧ RpAll K φ Hf xs vs := by
  rcases r with r | ⟨a, ys, vs, h1, h2, h3, h4⟩
  · cases r with
    | tup q r => cases h; exact ⟨_, _, rfl, .inr (SqT_same s q), r⟩
    | lst q r => cases h; exact ⟨_, _, rfl, .inl (.inl (.inl (s _ _ q))), r⟩
    | klst q r => cases h; exact ⟨_, _, rfl, .inl (s.seq q), r⟩
    | _ => cases h
  · subst h1 h2
    cases h
    exact ⟨_, _, rfl, .inl (.inl (.inl h3)), h4⟩
theorem fa_star {p : Pos} (h : FB X O e F) (t : FA X O es Fs) (hs : starEach (.Starred e p :: es) X.env = (true, eval e X.env) :: starEach es X.env := by rfl) : FA X O (.Starred e p :: es) (aStar F Fs) := by
  intro φ Hf0 H0 ρ σ Hf H ds Q S hF k
  unfold aStar at hF
  split at hF
  · rename_i d h1
    split at hF
    · rename_i xs hx
      split at hF
      · rename_i ds' h2
        cases hF
        refine toA (StX.pa_star (peW (e := e)) (paW (es := es)) hs) ?_
        refine h φ Hf0 H0 ρ σ Hf H d _ S h1 fun v Hf1 H1 g1 r1 => ?_
        obtain ⟨q, us, e1, e2, e3⟩ := r1.seq g1.s hx
        refine ⟨q, us, e1, e2.symm, ?_⟩
        refine t φ Hf0 H0 ρ σ Hf1 H1 ds' _ (S.gr g1) h2 fun vs Hf2 H2 g2 r2 => ?_
        exact k (us ++ vs) Hf2 H2 (g1.trans g2) ((e3.mono g2.f).append r2)
      · cases hF
    · cases hF
  · cases hF
theorem fe_tup {x1} (h : FA X O es Fs) : FE X O (.Tuple es x1 pos) (eL tupD Fs) := by
  intro φ Hf0 H0 ρ σ Hf H d Q S hF k
  obtain ⟨ds, h1, h2⟩ := eL_some hF
  unfold tupD at h2
  split at h2
  · rename_i hl
    cases h2
    refine toE (pe_tup (paW (es := es))) ?_
    refine h φ Hf0 H0 ρ σ Hf H ds _ S h1 fun vs Hf1 H1 g1 r1 => ?_
    refine ⟨by rw [← r1.length]; exact hl, fun p hp => ?_⟩
    have g2 : Gr Hf1 H1 (upd Hf1 p (.tup vs)) (upd H1 p (.tup vs)) := .new g1.s hp
    exact k _ _ _ (g1.trans g2) (.tup (.inl (.inl upd_same)) (r1.mono g2.f))
  · cases h2
theorem fn_lst (h : FA X O es Fs) : FN X O (.List es pos) (eL lstD Fs) := by
  intro φ Hf0 H0 ρ σ Hf H d Q S hF k
  obtain ⟨ds, h1, h2⟩ := eL_some hF
  unfold lstD at h2
  split at h2
  · rename_i hl
    cases h2
    refine toE (pe_lst (paW (es := es))) ?_
    refine h φ Hf0 H0 ρ σ Hf H ds _ S h1 fun vs Hf1 H1 g1 r1 => ?_
    refine ⟨by rw [← r1.length]; exact hl, fun p hp => ?_⟩
    have g2 : Gr Hf1 H1 Hf1 (upd H1 p (.lst vs)) := .own g1.s hp
    exact k p ds vs _ _ rfl (g1.trans g2) (g1.h.free hp) (g1.s.free hp) upd_same r1
  · cases h2
/-- an expression that is worth no object may read lists of our own as they are -/
theorem fe_scal {L : List Nat} (h : FE X L e F) (hL : L.all (O.contains ·) = true) : FE X O e (eScal F) := by
  intro φ Hf0 H0 ρ σ Hf H d Q S hF k
  unfold eScal at hF
  split at hF
  · rename_i d' h1
    split at hF
    · rename_i hs
      cases hF
      obtain ⟨Hf1, s1, S1⟩ := S.weak L hL
      refine h φ Hf0 H0 ρ σ Hf1 H d _ S1 h1 fun v Hf2 H2 g2 r2 => ?_
      exact k v Hf H2 ⟨Same.refl _, g2.h, S.sub.trans g2.h, fun _ _ _ z => z⟩ (r2.scal hs)
    · cases hF
  · cases hF
theorem ft_own {L : List Nat} {T : Env → Option Bool} (h : FT X L e T) (hL : L.all (O.contains ·) = true) : FT X O e T := by
  intro φ Hf0 H0 ρ σ Hf H b Q S hF k
  obtain ⟨Hf1, s1, S1⟩ := S.weak L hL
  exact h φ Hf0 H0 ρ σ Hf1 H b _ S1 hF fun Hf2 H2 g2 => k Hf H2 ⟨Same.refl _, g2.h, S.sub.trans g2.h, fun _ _ _ z => z⟩

/-! ### operations by values -/
def Op2 (K : PySem.W.Frag) (r : R2) (f : D → D → Option D) : Prop := ∀ (φ : Nat → Addr) (Hf H : Hp) (x y d : D) (v u : V) (Q : VK), Same Hf H → Rpb K φ Hf H x v → Rpb K φ Hf H y u → f x y = some d → (∀ z Hf' H', Gr Hf H Hf' H' → Rp K φ Hf' d z → Q z H') → r v u H Q
def Op2N (K : PySem.W.Frag) (r : R2) (f : D → D → Option D) : Prop := ∀ (φ : Nat → Addr) (Hf H : Hp) (x y d : D) (v u : V) (Q : VK), Same Hf H → Rpb K φ Hf H x v → Rpb K φ Hf H y u → f x y = some d →
  (∀ a xs vs H', d = .lst xs → Gr Hf H Hf H' → H a = none → H' a = some (.lst vs) → RpAll K φ Hf xs vs → Q (.ref a) H') → r v u H Q
def OpL (K : PySem.W.Frag) (r : List V → Hp → VK → Prop) (f : List D → Option D) : Prop := ∀ (φ : Nat → Addr) (Hf H : Hp) (xs : List D) (d : D) (vs : List V) (Q : VK), Same Hf H → RpbAll K φ Hf H xs vs → f xs = some d → (∀ z Hf' H', Gr Hf H Hf' H' → Rp K φ Hf' d z → Q z H') → r vs H Q
def OpLN (K : PySem.W.Frag) (r : List V → Hp → VK → Prop) (f : List D → Option D) : Prop := ∀ (φ : Nat → Addr) (Hf H : Hp) (xs : List D) (d : D) (vs : List V) (Q : VK), Same Hf H → RpbAll K φ Hf H xs vs → f xs = some d →
  (∀ a ys us H', d = .lst ys → Gr Hf H Hf H' → H a = none → H' a = some (.lst us) → RpAll K φ Hf ys us → Q (.ref a) H') → r vs H Q
theorem two {φ : Nat → Addr} {Hf0 H0 : Hp} {ρ : Env} {σ : St} {Hf H : Hp} {x y : D} {R : V → V → Hp → Prop} (ha : FB X O a F) (hb : FB X O b G) (S : SR X.K φ Hf0 H0 O ρ σ Hf H) (h1 : F ρ = some x) (h2 : G ρ = some y)
    (k : ∀ v u Hf' H', Gr Hf H Hf' H' → Rpb X.K φ Hf' H' x v → Rpb X.K φ Hf' H' y u → R v u H') : wE X a σ H fun v H1 => wE X b σ H1 fun u H2 => R v u H2 :=
  ha φ Hf0 H0 ρ σ Hf H x _ S h1 fun v Hf1 H1 g1 r1 => hb φ Hf0 H0 ρ σ Hf1 H1 y _ (S.gr g1) h2 fun u Hf2 H2 g2 r2 => k v u Hf2 H2 (g1.trans g2) (r1.gr g2) r2
theorem fe_op {op : Operator} {r : R2} {f : D → D → Option D} (ho : OpR X (binaryOp op) r) (hr : Op2 X.K r f) (ha : FB X O a F) (hb : FB X O b G) : FE X O (.BinOp a op b pos) (e2 f F G) := by
  intro φ Hf0 H0 ρ σ Hf H d Q S hF k
  obtain ⟨x, y, h1, h2, h3⟩ := e2_some hF
  exact toE (pe_op ho peW peW) (two ha hb S h1 h2 fun v u Hf1 H1 g r1 r2 => hr φ Hf1 H1 x y d v u Q g.s r1 r2 h3 fun z Hf2 H2 g2 r3 => k z Hf2 H2 (g.trans g2) r3)
theorem fn_op {op : Operator} {r : R2} {f : D → D → Option D} (ho : OpR X (binaryOp op) r) (hr : Op2N X.K r f) (ha : FB X O a F) (hb : FB X O b G) : FN X O (.BinOp a op b pos) (e2 f F G) := by
  intro φ Hf0 H0 ρ σ Hf H d Q S hF k
  obtain ⟨x, y, h1, h2, h3⟩ := e2_some hF
  exact toE (pe_op ho peW peW) (two ha hb S h1 h2 fun v u Hf1 H1 g r1 r2 => hr φ Hf1 H1 x y d v u Q g.s r1 r2 h3 fun a xs vs H2 hd g2 q1 q2 r3 => k a xs vs Hf1 H2 hd (g.trans g2) (g.h.free q1) (g.s.free q1) q2 r3)
theorem fe_cmp {op : CmpOp} {r : R2} {f : D → D → Option D} (ho : OpR X (compareOp op) r) (hr : Op2 X.K r f) (ha : FB X O a F) (hb : FB X O b G) (hm : behindInMarks op b = false) : FE X O (.Compare a [op] [b] pos) (e2 f F G) := by
  intro φ Hf0 H0 ρ σ Hf H d Q S hF k
  obtain ⟨x, y, h1, h2, h3⟩ := e2_some hF
  exact toE (pe_cmpR ho peW peW hm) (two ha hb S h1 h2 fun v u Hf1 H1 g r1 r2 => hr φ Hf1 H1 x y d v u Q g.s r1 r2 h3 fun z Hf2 H2 g2 r3 => k z Hf2 H2 (g.trans g2) r3)
theorem ft_cmp {op : CmpOp} {r : R2} {f : D → D → Option D} (ho : OpR X (compareOp op) r) (hr : Op2 X.K r f) (ha : FB X O a F) (hb : FB X O b G) (hm : behindInMarks op b = false) : FT X O (.Compare a [op] [b] pos) (tB blD (e2 f F G)) := by
  intro φ Hf0 H0 ρ σ Hf H c Q S hF k
  obtain ⟨d, hd, hc⟩ := tB_some hF
  obtain ⟨x, y, h1, h2, h3⟩ := e2_some hd
  cases d <;> first | cases hc | skip
  refine toT (pt_cmpR ho peW peW hm) (two ha hb S h1 h2 fun v u Hf1 H1 g r1 r2 => hr φ Hf1 H1 x y _ v u _ g.s r1 r2 h3 fun z Hf2 H2 g2 r3 => ?_)
  cases r3
  exact ⟨_, rfl, k Hf2 H2 (g.trans g2)⟩
theorem fe_ix {r : R2} {f : D → D → Option D} (ho : IxR X r) (hr : Op2 X.K r f) (ha : FB X O a F) (hb : FB X O b G) (hs : PlainIx b) : FE X O (.Subscript a b pos) (e2 f F G) := by
  intro φ Hf0 H0 ρ σ Hf H d Q S hF k
  obtain ⟨x, y, h1, h2, h3⟩ := e2_some hF
  exact toE (pe_ix ho peW peW hs) (two ha hb S h1 h2 fun v u Hf1 H1 g r1 r2 => hr φ Hf1 H1 x y d v u Q g.s r1 r2 h3 fun z Hf2 H2 g2 r3 => k z Hf2 H2 (g.trans g2) r3)
theorem ft_val (h : FE X O e F) (he : ∀ whole, isTrue e X.env whole = (do let v ← whole; standAt e.pos; holding [v] (truthy v)) := by intro _; rfl) : FT X O e (tB truD F) := by
  intro φ Hf0 H0 ρ σ Hf H c Q S hF k
  obtain ⟨d, hd, hc⟩ := tB_some hF
  refine toT (pt_truth peW he) ?_
  refine h φ Hf0 H0 ρ σ Hf H d _ S hd fun v Hf1 H1 g1 r1 => ⟨c, ?_, k Hf1 H1 g1⟩
  cases r1 <;> simp only [truD] at hc <;> try (cases hc; rfl)
  case str y => split at hc; rename_i hl; cases hc; exact ⟨hl, rfl⟩; cases hc
  case tup q r => cases hc; refine .inr (.inl ⟨_, SqT_same g1.s q, ?_⟩); cases r <;> rfl
  case lst q r => cases hc; refine .inl ⟨_, .inl (.inl (g1.s _ _ q)), ?_⟩; cases r <;> rfl
  case klst q r => cases hc; refine .inl ⟨_, g1.s.seq q, ?_⟩; cases r <;> rfl
  case obj => cases hc
theorem ft_not {T : Env → Option Bool} (h : FT X O e T) : FT X O (.UnaryOp .Not e pos) (tNot T) := by
  intro φ Hf0 H0 ρ σ Hf H c Q S hF k
  unfold tNot at hF
  split at hF
  · rename_i b hb
    cases hF
    exact toT (pt_not ptW) (h φ Hf0 H0 ρ σ Hf H b _ S hb fun Hf1 H1 g1 => k Hf1 H1 g1)
  · cases hF
/-- a chain of and, or -/
def FW (X : Cx) (O : List Nat) (e : Expr) (F : Env → Option Bool) : Prop :=
  ∃ t : TT, PW X e t ∧ ∀ (φ : Nat → Addr) (Hf0 H0 : Hp) (ρ : Env) (σ : St) (Hf H : Hp) (b : Bool) (Q : Bool → Hp → Prop), SR X.K φ Hf0 H0 O ρ σ Hf H → F ρ = some b → (∀ Hf' H', Gr Hf H Hf' H' → Q b H') → t σ H Q
theorem ft_w {T : Env → Option Bool} (h : FW X O e T) : FT X O e T := by
  obtain ⟨t, p, h⟩ := h
  intro φ Hf0 H0 ρ σ Hf H c Q S hF k
  exact toT p.pt (h φ Hf0 H0 ρ σ Hf H c Q S hF k)
theorem fw_and1 {T : Env → Option Bool} (h : FT X O e T) : FW X O (.BoolOp .And [e] pos) T := ⟨_, pw_and1 ptW, h⟩
theorem fw_or1 {T : Env → Option Bool} (h : FT X O e T) : FW X O (.BoolOp .Or [e] pos) T := ⟨_, pw_or1 ptW, h⟩
theorem fw_and {rest : List Expr} {T U : Env → Option Bool} (h : FT X O a T) (h2 : FW X O (.BoolOp .And (b :: rest) pos) U) : FW X O (.BoolOp .And (a :: b :: rest) pos) (tAnd T U) := by
  obtain ⟨t, p, h2⟩ := h2
  refine ⟨_, pw_and ptW p, fun φ Hf0 H0 ρ σ Hf H c Q S hF k => ?_⟩
  unfold tAnd at hF
  split at hF
  · rename_i hb
    refine h φ Hf0 H0 ρ σ Hf H true _ S hb fun Hf1 H1 g1 => ?_
    exact iteT (h2 φ Hf0 H0 ρ σ Hf1 H1 c Q (S.gr g1) hF fun Hf2 H2 g2 => k Hf2 H2 (g1.trans g2))
  · rename_i hb
    cases hF
    exact h φ Hf0 H0 ρ σ Hf H false _ S hb fun Hf1 H1 g1 => iteF (k Hf1 H1 g1)
  · cases hF
theorem fw_or {rest : List Expr} {T U : Env → Option Bool} (h : FT X O a T) (h2 : FW X O (.BoolOp .Or (b :: rest) pos) U) : FW X O (.BoolOp .Or (a :: b :: rest) pos) (tOr T U) := by
  obtain ⟨t, p, h2⟩ := h2
  refine ⟨_, pw_or ptW p, fun φ Hf0 H0 ρ σ Hf H c Q S hF k => ?_⟩
  unfold tOr at hF
  split at hF
  · rename_i hb
    cases hF
    exact h φ Hf0 H0 ρ σ Hf H true _ S hb fun Hf1 H1 g1 => iteT (k Hf1 H1 g1)
  · rename_i hb
    refine h φ Hf0 H0 ρ σ Hf H false _ S hb fun Hf1 H1 g1 => ?_
    exact iteF (h2 φ Hf0 H0 ρ σ Hf1 H1 c Q (S.gr g1) hF fun Hf2 H2 g2 => k Hf2 H2 (g1.trans g2))
  · cases hF
theorem fe_if {c : Expr} {T : Env → Option Bool} (h : FT X O c T) (h1 : FE X O a F) (h2 : FE X O b G) : FE X O (.IfExp c a b pos) (eIf T F G) := by
  intro φ Hf0 H0 ρ σ Hf H d Q S hF k
  refine toE (pe_ifExp ptW peW peW) ?_
  unfold eIf at hF
  split at hF
  · rename_i hb
    exact h φ Hf0 H0 ρ σ Hf H true _ S hb fun Hf1 H1 g1 => iteT (h1 φ Hf0 H0 ρ σ Hf1 H1 d Q (S.gr g1) hF fun v Hf2 H2 g2 r => k v Hf2 H2 (g1.trans g2) r)
  · rename_i hb
    exact h φ Hf0 H0 ρ σ Hf H false _ S hb fun Hf1 H1 g1 => iteF (h2 φ Hf0 H0 ρ σ Hf1 H1 d Q (S.gr g1) hF fun v Hf2 H2 g2 r => k v Hf2 H2 (g1.trans g2) r)
  · cases hF
/-! and, or, not as values -/
def eAnd (F G : Env → Option D) : Env → Option D := fun ρ => match F ρ with | some d => (match truD d with | some true => G ρ | some false => some d | none => none) | none => none
def eOr (F G : Env → Option D) : Env → Option D := fun ρ => match F ρ with | some d => (match truD d with | some true => some d | some false => G ρ | none => none) | none => none
def notD (d : D) : Option D := match truD d with | some b => some (.bl (!b)) | none => none
theorem tru_of {K : PySem.W.Frag} {φ : Nat → Addr} {Hf H : Hp} {d : D} {v : V} {c : Bool} (s : Same Hf H) (r1 : Rp K φ Hf d v) (hc : truD d = some c) : TruV K v H c := by
  cases r1 <;> simp only [truD] at hc <;> try (cases hc; rfl)
  case str y => split at hc; rename_i hl; cases hc; exact ⟨hl, rfl⟩; cases hc
  case tup q r => cases hc; refine .inr (.inl ⟨_, SqT_same s q, ?_⟩); cases r <;> rfl
  case lst q r => cases hc; refine .inl ⟨_, .inl (.inl (s _ _ q)), ?_⟩; cases r <;> rfl
  case klst q r => cases hc; refine .inl ⟨_, s.seq q, ?_⟩; cases r <;> rfl
  case obj => cases hc
theorem fe_and {rest : List Expr} (h : FE X O a F) (h2 : FE X O (.BoolOp .And (b :: rest) pos) G) : FE X O (.BoolOp .And (a :: b :: rest) pos) (eAnd F G) := by
  intro φ Hf0 H0 ρ σ Hf H d Q S hF k
  refine toE (pe_andT peW peW) ?_
  unfold eAnd at hF
  split at hF
  · rename_i x hx
    refine h φ Hf0 H0 ρ σ Hf H x _ S hx fun v Hf1 H1 g1 r1 => ?_
    split at hF
    · rename_i ht
      exact ⟨true, tru_of g1.s r1 ht, iteT (h2 φ Hf0 H0 ρ σ Hf1 H1 d Q (S.gr g1) hF fun v Hf2 H2 g2 r => k v Hf2 H2 (g1.trans g2) r)⟩
    · rename_i ht
      cases hF
      exact ⟨false, tru_of g1.s r1 ht, iteF (k v Hf1 H1 g1 r1)⟩
    · cases hF
  · cases hF
theorem fe_or {rest : List Expr} (h : FE X O a F) (h2 : FE X O (.BoolOp .Or (b :: rest) pos) G) : FE X O (.BoolOp .Or (a :: b :: rest) pos) (eOr F G) := by
  intro φ Hf0 H0 ρ σ Hf H d Q S hF k
  refine toE (pe_orT peW peW) ?_
  unfold eOr at hF
  split at hF
  · rename_i x hx
    refine h φ Hf0 H0 ρ σ Hf H x _ S hx fun v Hf1 H1 g1 r1 => ?_
    split at hF
    · rename_i ht
      cases hF
      exact ⟨true, tru_of g1.s r1 ht, iteT (k v Hf1 H1 g1 r1)⟩
    · rename_i ht
      exact ⟨false, tru_of g1.s r1 ht, iteF (h2 φ Hf0 H0 ρ σ Hf1 H1 d Q (S.gr g1) hF fun v Hf2 H2 g2 r => k v Hf2 H2 (g1.trans g2) r)⟩
    · cases hF
  · cases hF
theorem fe_one {op : BoolOp} (h : FE X O a F) : FE X O (.BoolOp op [a] pos) F := by
  intro φ Hf0 H0 ρ σ Hf H d Q S hF k
  exact toE (pe_one peW) (h φ Hf0 H0 ρ σ Hf H d Q S hF k)
theorem fe_not (h : FE X O a F) : FE X O (.UnaryOp .Not a pos) (e1 notD F) := by
  intro φ Hf0 H0 ρ σ Hf H d Q S hF k
  obtain ⟨x, h1, h2⟩ := e1_some hF
  refine toE (pe_notT peW) ?_
  refine h φ Hf0 H0 ρ σ Hf H x _ S h1 fun v Hf1 H1 g1 r1 => ?_
  unfold notD at h2
  split at h2
  · rename_i c hc
    cases h2
    exact ⟨c, tru_of g1.s r1 hc, k _ Hf1 H1 g1 (.bl _)⟩
  · cases h2
end
end FL
namespace FL
open PySem L2

/-! ### the value operations of the mirror -/
mutual
def toPy : D → PyData
  | .non => .none | .bl b => .bool b | .int i => .int i | .str x => .str x
  | .tup xs => .tuple (toPyAll xs) | .lst xs => .list (toPyAll xs) | .klst xs => .list (toPyAll xs) | .obj _ => .dict []
def toPyAll : List D → List PyData
  | [] => [] | x :: xs => toPy x :: toPyAll xs
end
mutual
def deq : D → D → Bool
  | .non, .non => true
  | .bl a, .bl b => a == b
  | .bl a, .int j => (if a then 1 else 0) == j
  | .int i, .bl b => i == (if b then 1 else 0)
  | .int i, .int j => i == j
  | .str x, .str y => x == y
  | .tup xs, .tup ys => deqAll xs ys
  | .lst xs, .lst ys => deqAll xs ys
  | .lst xs, .klst ys => deqAll xs ys
  | .klst xs, .lst ys => deqAll xs ys
  | .klst xs, .klst ys => deqAll xs ys
  | _, _ => false
def deqAll : List D → List D → Bool
  | [], [] => true
  | x :: xs, y :: ys => deq x y && deqAll xs ys
  | _, _ => false
end
def okD (d : D) : Bool := SeqAt.shaped (toPy d)
mutual
theorem deq_py : ∀ x y : D, deq x y = PyData.eqv (toPy x) (toPy y)
  | .non, y => by cases y <;> simp [deq, toPy, PyData.eqv]
  | .bl a, y => by cases y <;> simp [deq, toPy, PyData.eqv]
  | .int a, y => by cases y <;> simp [deq, toPy, PyData.eqv]
  | .str a, y => by cases y <;> simp [deq, toPy, PyData.eqv]
  | .obj a, y => by cases y <;> simp [deq, toPy, PyData.eqv]
  | .tup xs, y => by
    cases y <;> simp only [deq, toPy, PyData.eqv]
    exact deqAll_py xs _
  | .lst xs, y => by
    cases y <;> simp only [deq, toPy, PyData.eqv]
    all_goals exact deqAll_py xs _
  | .klst xs, y => by
    cases y <;> simp only [deq, toPy, PyData.eqv]
    all_goals exact deqAll_py xs _
theorem deqAll_py : ∀ xs ys : List D, deqAll xs ys = PyData.eqvAll (toPyAll xs) (toPyAll ys)
  | [], [] => by simp [deqAll, toPyAll, PyData.eqvAll]
  | [], _ :: _ => by simp [deqAll, toPyAll, PyData.eqvAll]
  | _ :: _, [] => by simp [deqAll, toPyAll, PyData.eqvAll]
  | x :: xs, y :: ys => by
    simp only [deqAll, toPyAll, PyData.eqvAll]
    rw [deq_py x y, deqAll_py xs ys]
end
section
variable {K : PySem.W.Frag} {φ : Nat → Addr} {H : Hp}
mutual
theorem Rp.dp : ∀ {d : D} {v : V}, Rp K φ H d v → (toPy d).canLay0 = true → Dp K H v (toPy d)
  | _, _, .non, _ => .non
  | _, _, .bl b, _ => .bl b
  | _, _, .int i, _ => .int i
  | _, _, .str x, _ => .str x
  | _, _, .tup s r, h => .tup s (RpAll.dp r (by simpa [toPy, PyData.canLay0] using h))
  | _, _, .lst s r, h => .lst (.inl (.inl s)) (RpAll.dp r (by simpa [toPy, PyData.canLay0] using h))
  | _, _, .klst s r, h => .lst s (RpAll.dp r (by simpa [toPy, PyData.canLay0] using h))
  | _, _, .obj i, h => by simp [toPy, PyData.canLay0] at h
theorem RpAll.dp : ∀ {ds : List D} {vs : List V}, RpAll K φ H ds vs → PyData.canLayAll0 (toPyAll ds) = true → DpAll K H vs (toPyAll ds)
  | _, _, .nil, _ => .nil
  | _, _, .cons r t, h => by
    have h' := h
    simp only [toPyAll, PyData.canLayAll0, Bool.and_eq_true] at h'
    exact .cons (r.dp h'.1) (RpAll.dp t h'.2)
end
theorem Rp.dp' {d : D} {v : V} (r : Rp K φ H d v) (h : okD d = true) : Dp K H v (toPy d) := r.dp (SeqAt.canLay_of_shaped h)
end

def sEq (x y : Str) : Bool := x.cps.toList == y.cps.toList
theorem sEq_eq (x y : Str) : sEq x y = decide (x = y) := by
  unfold sEq
  rw [Bool.eq_iff_iff]
  simp only [beq_iff_eq, decide_eq_true_eq]
  constructor
  · intro h
    cases x with | mk a => cases y with | mk b => exact congrArg _ (Array.ext' h)
  · rintro rfl; rfl
/-- == where both sides are no objects -/
def scEq : D → D → Option Bool
  | .non, .non => some true | .non, .int _ => some false | .int _, .non => some false | .non, .bl _ => some false | .bl _, .non => some false | .non, .str _ => some false | .str _, .non => some false
  | .int i, .int j => some (i == j) | .bl a, .bl b => some (a == b) | .str a, .str b => some (sEq a b)
  | .int _, .str _ => some false | .str _, .int _ => some false | .bl _, .str _ => some false | .str _, .bl _ => some false
  | _, _ => none
def eqB (x y : D) : Option Bool := match scEq x y with | some b => some b | none => if okD x && okD y then some (deq x y) else none
def eqD (x y : D) : Option D := match eqB x y with | some b => some (.bl b) | none => none
def neD (x y : D) : Option D := match eqB x y with | some b => some (.bl (!b)) | none => none
def addD : D → D → Option D
  | .int i, .int j => some (.int (i + j))
  | .str a, .str b => if a.length + b.length ≤ sizeLine then some (.str (a ++ b)) else none
  | .tup xs, .tup ys => if xs.length + ys.length ≤ sizeLine then some (.tup (xs ++ ys)) else none
  | .lst xs, .lst ys => if xs.length + ys.length ≤ sizeLine then some (.lst (xs ++ ys)) else none
  | _, _ => none
def catD : D → D → Option D
  | .lst xs, .lst ys => if xs.length + ys.length ≤ sizeLine then some (.lst (xs ++ ys)) else none
  | _, _ => none
def subD : D → D → Option D | .int i, .int j => some (.int (i - j)) | _, _ => none
def mulD : D → D → Option D | .int i, .int j => if (-(2 ^ 64) < i ∧ i < 2 ^ 64) ∨ (-(2 ^ 64) < j ∧ j < 2 ^ 64) then some (.int (i * j)) else none | _, _ => none
def fdivD : D → D → Option D | .int i, .int j => if 0 < j ∧ j < 1073741824 then some (.int (i / j)) else none | _, _ => none
def modD : D → D → Option D | .int i, .int j => if 0 < j then some (.int (i % j)) else none | _, _ => none
def powD : D → D → Option D | .int i, .int j => if 0 ≤ j ∧ j ≤ 1000000 ∧ i.natAbs < 2 ^ 64 then some (.int (i ^ j.toNat)) else none | _, _ => none
def ltD : D → D → Option D | .int i, .int j => some (.bl (decide (i < j))) | _, _ => none
def leD : D → D → Option D | .int i, .int j => some (.bl (decide (i ≤ j))) | _, _ => none
def gtD : D → D → Option D | .int i, .int j => some (.bl (decide (j < i))) | _, _ => none
def geD : D → D → Option D | .int i, .int j => some (.bl (decide (j ≤ i))) | _, _ => none
def isB (x y : D) : Option Bool := match y with
  | .non => some (match x with | .non => true | _ => false)
  | .bl b => some (match x with | .bl c => c == b | _ => false)
  | _ => none
def isD (x y : D) : Option D := match isB x y with | some b => some (.bl b) | none => none
def isntD (x y : D) : Option D := match isB x y with | some b => some (.bl (!b)) | none => none
def flatD : D → Bool | .non => true | .bl _ => true | .int _ => true | .str _ => true | _ => false
def isLst : D → Bool | .lst _ => true | .klst _ => true | _ => false
def inB (x y : D) : Option Bool := match seqD y with
  | some xs => if flatD x && xs.all flatD then some (xs.any fun z => deq z x) else if isLst y && okD x && okD y then some (xs.any fun z => deq z x) else none
  | none => match x, y with
    | .str a, .str b => some (!(Builtin.Str.occurrences b a 0 b.length 1).isEmpty)
    | _, _ => none
def inD (x y : D) : Option D := match inB x y with | some b => some (.bl b) | none => none
def ninD (x y : D) : Option D := match inB x y with | some b => some (.bl (!b)) | none => none
def ixD (x y : D) : Option D := match y with
  | .int i => match x with
    | .lst xs => atI xs i | .klst xs => atI xs i | .tup xs => atI xs i
    | .str z => if z.length ≤ sizeLine then (match atI z.cps.toList i with | some c => some (.str ⟨#[c]⟩) | none => none) else none
    | _ => none
  | _ => none

section
variable {X : Cx}
def rBoolOp (p : Bool → Bool) (f : V → V → Option Bool) : R2 := fun x y H Q => ∃ b, f x y = some b ∧ Q (.bl (p b)) H
theorem Op2.or1 {K : PySem.W.Frag} {r r' : R2} {f : D → D → Option D} (h : Op2 K r f) : Op2 K (fun x y H Q => r x y H Q ∨ r' x y H Q) f := fun φ Hf H x y d v u Q s r1 r2 e k => .inl (h φ Hf H x y d v u Q s r1 r2 e k)

/-! int operations -/
theorem Rpb.int {K : PySem.W.Frag} {φ : Nat → Addr} {Hf H : Hp} {i : Int} {v : V} (r : Rpb K φ Hf H (.int i) v) : v = .int i := by
  rcases r with r | ⟨a, xs, vs, h1, _⟩
  · cases r; rfl
  · cases h1
theorem Rpb.str {K : PySem.W.Frag} {φ : Nat → Addr} {Hf H : Hp} {i : Str} {v : V} (r : Rpb K φ Hf H (.str i) v) : v = .str i := by
  rcases r with r | ⟨a, xs, vs, h1, _⟩
  · cases r; rfl
  · cases h1
theorem Rpb.tup {K : PySem.W.Frag} {φ : Nat → Addr} {Hf H : Hp} {xs : List D} {v : V} (r : Rpb K φ Hf H (.tup xs) v) : ∃ a vs, v = .ref a ∧ SqT K Hf a vs ∧ RpAll K φ Hf xs vs := by
  rcases r with r | ⟨a, xs, vs, h1, _⟩
  · cases r with | tup q r => exact ⟨_, _, rfl, q, r⟩
  · cases h1
theorem Rpb.lst {K : PySem.W.Frag} {φ : Nat → Addr} {Hf H : Hp} {xs : List D} {v : V} (s : Same Hf H) (r : Rpb K φ Hf H (.lst xs) v) : ∃ a vs, v = .ref a ∧ H a = some (.lst vs) ∧ RpAll K φ Hf xs vs := by
  rcases r with r | ⟨a, xs, vs, h1, h2, h3, h4⟩
  · cases r with | lst q r => exact ⟨_, _, rfl, s _ _ q, r⟩
  · cases h1; exact ⟨_, _, h2, h3, h4⟩
theorem Rpb.scal_v {K : PySem.W.Frag} {φ : Nat → Addr} {Hf H : Hp} {d : D} {v : V} (r : Rpb K φ Hf H d v) (h : scal d = true) : Rp K φ Hf d v := by
  rcases r with r | ⟨a, xs, vs, h1, h2, h3, h4⟩
  · exact r
  · subst h1; cases h
theorem o_sub {K} : Op2 K (rI0 fun i j => .int (i - j)) subD := fun φ Hf H x y d v u Q s r1 r2 e k => by
  unfold subD at e; split at e
  · cases e; exact ⟨_, _, r1.int, r2.int, k _ Hf H (.refl s) (.int _)⟩
  · cases e
theorem o_mul {K} : Op2 K (rI CMul fun i j => .int (i * j)) mulD := fun φ Hf H x y d v u Q s r1 r2 e k => by
  unfold mulD at e; split at e
  · split at e
    · rename_i c; cases e; exact ⟨_, _, r1.int, r2.int, c, k _ Hf H (.refl s) (.int _)⟩
    · cases e
  · cases e
theorem o_fdiv {K} : Op2 K (rI CDiv fun i j => .int (i / j)) fdivD := fun φ Hf H x y d v u Q s r1 r2 e k => by
  unfold fdivD at e; split at e
  · split at e
    · rename_i c; cases e; exact ⟨_, _, r1.int, r2.int, c, k _ Hf H (.refl s) (.int _)⟩
    · cases e
  · cases e
theorem o_mod {K} : Op2 K (rI (fun _ j => 0 < j) fun i j => .int (i % j)) modD := fun φ Hf H x y d v u Q s r1 r2 e k => by
  unfold modD at e; split at e
  · split at e
    · rename_i c; cases e; exact ⟨_, _, r1.int, r2.int, c, k _ Hf H (.refl s) (.int _)⟩
    · cases e
  · cases e
theorem o_pow {K} : Op2 K (rI CPow fun i j => .int (i ^ j.toNat)) powD := fun φ Hf H x y d v u Q s r1 r2 e k => by
  unfold powD at e; split at e
  · split at e
    · rename_i c; cases e; exact ⟨_, _, r1.int, r2.int, c, k _ Hf H (.refl s) (.int _)⟩
    · cases e
  · cases e
theorem o_lt {K} : Op2 K (rI0 fun i j => .bl (decide (i < j))) ltD := fun φ Hf H x y d v u Q s r1 r2 e k => by
  unfold ltD at e; split at e
  · cases e; exact ⟨_, _, r1.int, r2.int, k _ Hf H (.refl s) (.bl _)⟩
  · cases e
theorem o_le {K} : Op2 K (rI0 fun i j => .bl (decide (i ≤ j))) leD := fun φ Hf H x y d v u Q s r1 r2 e k => by
  unfold leD at e; split at e
  · cases e; exact ⟨_, _, r1.int, r2.int, k _ Hf H (.refl s) (.bl _)⟩
  · cases e
theorem o_gt {K} : Op2 K (rI0 fun i j => .bl (decide (j < i))) gtD := fun φ Hf H x y d v u Q s r1 r2 e k => by
  unfold gtD at e; split at e
  · cases e; exact ⟨_, _, r1.int, r2.int, k _ Hf H (.refl s) (.bl _)⟩
  · cases e
theorem o_ge {K} : Op2 K (rI0 fun i j => .bl (decide (j ≤ i))) geD := fun φ Hf H x y d v u Q s r1 r2 e k => by
  unfold geD at e; split at e
  · cases e; exact ⟨_, _, r1.int, r2.int, k _ Hf H (.refl s) (.bl _)⟩
  · cases e
/-! + -/
def rAddX (K : PySem.W.Frag) : R2 := fun x y H Q => (rI0 (fun i j => .int (i + j)) x y H Q ∨ (∃ i j, x = .str i ∧ y = .str j ∧ i.length + j.length ≤ sizeLine ∧ Q (.str (i ++ j)) H)) ∨ (rCat x y H Q ∨ rCatA K x y H Q)
theorem op_addX : OpR X (binaryOp .Add) (rAddX X.K) := OpR.or (OpR.or op_add op_add_str) (OpR.or op_cat op_catA)
theorem o_add {K} : Op2 K (rAddX K) addD := fun φ Hf H x y d v u Q s r1 r2 e k => by
  unfold addD at e; split at e
  · cases e; exact .inl (.inl ⟨_, _, r1.int, r2.int, k _ Hf H (.refl s) (.int _)⟩)
  · split at e
    · rename_i c; cases e; exact .inl (.inr ⟨_, _, r1.str, r2.str, c, k _ Hf H (.refl s) (.str _)⟩)
    · cases e
  · split at e
    · rename_i c; cases e
      obtain ⟨a, vs, e1, q1, w1⟩ := r1.tup
      obtain ⟨b, us, e2, q2, w2⟩ := r2.tup
      refine .inr (.inr ⟨a, b, vs, us, e1, e2, SqT_same s q1, SqT_same s q2, by rw [← w1.length, ← w2.length]; exact c, fun h => ?_, fun _ h => ?_, fun _ _ p hp => ?_⟩)
      · subst h; cases w1; exact k _ Hf H (.refl s) (.tup q2 w2)
      · subst h; cases w2; rw [List.append_nil] at k; exact k _ Hf H (.refl s) (.tup q1 w1)
      · have g : Gr Hf H _ _ := .new (o := .tup (vs ++ us)) s hp
        exact k _ _ _ g (.tup (.inl (.inl upd_same)) ((w1.append w2).mono g.f))
    · cases e
  · split at e
    · rename_i c; cases e
      obtain ⟨a, vs, e1, q1, w1⟩ := r1.lst s
      obtain ⟨b, us, e2, q2, w2⟩ := r2.lst s
      refine .inr (.inl ⟨a, b, vs, us, e1, e2, q1, q2, by rw [← w1.length, ← w2.length]; exact c, fun p hp => ?_⟩)
      have g : Gr Hf H _ _ := .new (o := .lst (vs ++ us)) s hp
      exact k _ _ _ g (.lst upd_same ((w1.append w2).mono g.f))
    · cases e
  · cases e
theorem o_cat {K} : Op2N K rCat catD := fun φ Hf H x y d v u Q s r1 r2 e k => by
  unfold catD at e; split at e
  · split at e
    · rename_i c; cases e
      obtain ⟨a, vs, e1, q1, w1⟩ := r1.lst s
      obtain ⟨b, us, e2, q2, w2⟩ := r2.lst s
      refine ⟨a, b, vs, us, e1, e2, q1, q2, by rw [← w1.length, ← w2.length]; exact c, fun p hp => ?_⟩
      have g : Gr Hf H _ _ := .own (o := .lst (vs ++ us)) s hp
      exact k p _ _ _ rfl g hp upd_same (w1.append w2)
    · cases e
  · cases e
/-! ==, is, in -/
theorem scEq_v {K : PySem.W.Frag} {φ : Nat → Addr} {Hf H : Hp} {x y : D} {v u : V} {b : Bool} (r1 : Rpb K φ Hf H x v) (r2 : Rpb K φ Hf H y u) (h : scEq x y = some b) : L2.scal v u = true ∧ decide (v = u) = b := by
  have hx : scal x = true := by cases x <;> first | rfl | (cases y <;> cases h)
  have hy : scal y = true := by cases y <;> first | rfl | (cases x <;> cases h)
  have w1 := r1.scal_v hx
  have w2 := r2.scal_v hy
  cases w1 <;> first | (cases hx) | skip
  all_goals (cases w2 <;> first | (cases hy) | skip)
  all_goals (simp only [scEq, Option.some.injEq, reduceCtorEq] at h)
  all_goals (subst h; refine ⟨rfl, ?_⟩)
  all_goals first | rfl | (simp [sEq_eq]; done) | (rw [Bool.eq_iff_iff]; simp [sEq_eq])
def rEqX (K : PySem.W.Frag) : R2 := fun x y H Q => rEq x y H Q ∨ rEqD K x y H Q
def rNeX (K : PySem.W.Frag) : R2 := fun x y H Q => rNe x y H Q ∨ rNeD K x y H Q
theorem op_eqX (hu : X.A.units + 64 < cLine) : OpR X (compareOp .Eq) (rEqX X.K) := OpR.or op_eq (op_eqD hu)
theorem op_neX (hu : X.A.units + 64 < cLine) : OpR X (compareOp .NotEq) (rNeX X.K) := OpR.or op_ne (op_neD hu)
theorem o_eq {K} : Op2 K (rEqX K) eqD := fun φ Hf H x y d v u Q s r1 r2 e k => by
  unfold eqD eqB at e
  cases hs : scEq x y with
  | some b =>
    rw [hs] at e; cases e
    obtain ⟨h1, h2⟩ := scEq_v r1 r2 hs
    exact .inl ⟨h1, by rw [h2]; exact k _ Hf H (.refl s) (.bl _)⟩
  | none =>
    rw [hs] at e; simp only at e
    by_cases hc : (okD x && okD y) = true
    · rw [if_pos hc] at e; cases e
      have hc' : okD x = true ∧ okD y = true := by simpa using hc
      exact .inr ⟨toPy x, toPy y, (r1.all s).dp' hc'.1, (r2.all s).dp' hc'.2, hc'.1, hc'.2, by rw [← deq_py]; exact k _ Hf H (.refl s) (.bl _)⟩
    · rw [if_neg hc] at e; cases e
theorem o_ne {K} : Op2 K (rNeX K) neD := fun φ Hf H x y d v u Q s r1 r2 e k => by
  unfold neD eqB at e
  cases hs : scEq x y with
  | some b =>
    rw [hs] at e; cases e
    obtain ⟨h1, h2⟩ := scEq_v r1 r2 hs
    exact .inl ⟨h1, by rw [h2]; exact k _ Hf H (.refl s) (.bl _)⟩
  | none =>
    rw [hs] at e; simp only at e
    by_cases hc : (okD x && okD y) = true
    · rw [if_pos hc] at e; cases e
      have hc' : okD x = true ∧ okD y = true := by simpa using hc
      exact .inr ⟨toPy x, toPy y, (r1.all s).dp' hc'.1, (r2.all s).dp' hc'.2, hc'.1, hc'.2, by rw [← deq_py]; exact k _ Hf H (.refl s) (.bl _)⟩
    · rw [if_neg hc] at e; cases e
def isV (x y : V) : Option Bool := match y with
  | .non => some (decide (x = .non)) | .bl b => some (decide (x = .bl b)) | _ => none
theorem plain_of {x : V} {v : Value} (r : RelV x v) (b : Bool) : plainIs v (.bool b) = true := by
  cases x <;> first | (obtain ⟨t, rfl⟩ := r; rfl) | (cases r; rfl)
theorem bool_iff {x : V} {v : Value} (r : RelV x v) (b : Bool) : (v == Value.bool b) = decide (x = .bl b) := by
  rw [Bool.eq_iff_iff]
  simp only [beq_iff_eq, decide_eq_true_eq]
  cases x with
  | bl c =>
    cases r
    constructor
    · intro h; cases h; rfl
    · intro h; cases h; rfl
  | _ =>
    first
      | (obtain ⟨t, rfl⟩ := r; constructor <;> (intro h; cases h))
      | (cases r; constructor <;> (intro h; cases h))
theorem op_isX : OpR X (compareOp .Is) (rBoolOp id isV) := by
  intro pins s σ H x y v u Q I rx ry h
  obtain ⟨b, e, q⟩ := h
  cases y with
  | non =>
    simp only [isV, Option.some.injEq] at e
    subst e
    exact op_isN pins s σ H x _ v u Q I rx ry ⟨rfl, q⟩
  | bl c =>
    simp only [isV, Option.some.injEq] at e
    subst e
    cases (show u = Value.bool c from ry)
    refine wpAny_is_plain (plain_of rx c) ⟨.bl (decide (x = .bl c)), H, I, ?_, q⟩
    rw [bool_iff rx c]; rfl
  | _ => simp [isV] at e
theorem op_isntX : OpR X (compareOp .IsNot) (rBoolOp not isV) := by
  intro pins s σ H x y v u Q I rx ry h
  obtain ⟨b, e, q⟩ := h
  cases y with
  | non =>
    simp only [isV, Option.some.injEq] at e
    subst e
    exact op_notN pins s σ H x _ v u Q I rx ry ⟨rfl, q⟩
  | bl c =>
    simp only [isV, Option.some.injEq] at e
    subst e
    cases (show u = Value.bool c from ry)
    refine wpAny_isNot_plain (plain_of rx c) ⟨.bl (!decide (x = .bl c)), H, I, ?_, q⟩
    rw [bool_iff rx c]; rfl
  | _ => simp [isV] at e
theorem isB_v {K : PySem.W.Frag} {φ : Nat → Addr} {Hf H : Hp} {x y : D} {v u : V} {b : Bool} (r1 : Rpb K φ Hf H x v) (r2 : Rpb K φ Hf H y u) (h : isB x y = some b) : isV v u = some b := by
  unfold isB at h
  split at h
  · cases h
    cases r2.scal_v rfl
    rcases r1 with r1 | ⟨a, xs, vs, h1, h2, h3, h4⟩
    · cases r1 <;> rfl
    · subst h1 h2; rfl
  · rename_i c
    cases h
    cases r2.scal_v rfl
    rcases r1 with r1 | ⟨a, xs, vs, h1, h2, h3, h4⟩
    · cases r1 <;> simp [isV]
      rw [Bool.eq_iff_iff]; simp
    · subst h1 h2; rfl
  · cases h
theorem o_is {K} : Op2 K (rBoolOp id isV) isD := fun φ Hf H x y d v u Q s r1 r2 e k => by
  unfold isD at e; split at e
  · rename_i b hb; cases e; exact ⟨b, isB_v r1 r2 hb, k _ Hf H (.refl s) (.bl _)⟩
  · cases e
theorem o_isnt {K} : Op2 K (rBoolOp not isV) isntD := fun φ Hf H x y d v u Q s r1 r2 e k => by
  unfold isntD at e; split at e
  · rename_i b hb; cases e; exact ⟨b, isB_v r1 r2 hb, k _ Hf H (.refl s) (.bl _)⟩
  · cases e
theorem flat_v {K : PySem.W.Frag} {φ : Nat → Addr} {H : Hp} {x : D} {v : V} (r : Rp K φ H x v) (h : flatD x = true) : flatV v = true := by
  cases r <;> first | rfl | (cases h)
theorem flat_all {K : PySem.W.Frag} {φ : Nat → Addr} {H : Hp} : ∀ {xs : List D} {vs : List V}, RpAll K φ H xs vs → xs.all flatD = true → vs.all flatV = true
  | _, _, .nil, _ => rfl
  | _, _, .cons r t, h => by
    simp only [List.all_cons, Bool.and_eq_true] at h ⊢
    exact ⟨flat_v r h.1, flat_all t h.2⟩
theorem eqV_deq {K : PySem.W.Frag} {φ : Nat → Addr} {H H2 : Hp} {x y : D} {v u : V} (r : Rp K φ H x v) (q : Rp K φ H2 y u) (hx : flatD x = true) (hy : flatD y = true) : eqV v u = deq x y := by
  cases r <;> first | (cases hx) | skip
  all_goals (cases q <;> first | (cases hy) | skip)
  all_goals first | rfl | (simp [eqV, deq])
theorem inV_any {K : PySem.W.Frag} {φ : Nat → Addr} {H H2 : Hp} {x : D} {v : V} (r : Rp K φ H2 x v) (hx : flatD x = true) : ∀ {xs : List D} {vs : List V}, RpAll K φ H xs vs → xs.all flatD = true → inV v vs = xs.any fun z => deq z x
  | _, _, .nil, _ => rfl
  | _, _, .cons q t, h => by
    simp only [List.all_cons, Bool.and_eq_true] at h
    have ih := inV_any r hx t h.2
    unfold inV at ih ⊢
    rw [List.any_cons, List.any_cons, ih, eqV_deq q r h.1 hx]
def rInX (K : PySem.W.Frag) : R2 := fun x y H Q => (rIn K false x y H Q ∨ rInD K x y H Q) ∨ (∃ i j, x = .str i ∧ y = .str j ∧ Q (.bl (!(Builtin.Str.occurrences j i 0 j.length 1).isEmpty)) H)
def rNinX (K : PySem.W.Frag) : R2 := fun x y H Q => (rIn K true x y H Q ∨ rNotInD K x y H Q) ∨ (∃ i j, x = .str i ∧ y = .str j ∧ Q (.bl (!(!(Builtin.Str.occurrences j i 0 j.length 1).isEmpty))) H)
theorem op_inX (hu : X.A.units + 65 < cLine) : OpR X (compareOp .In) (rInX X.K) := OpR.or (OpR.or op_in_seq (op_inD hu)) op_in_str
theorem op_ninX (hu : X.A.units + 65 < cLine) : OpR X (compareOp .NotIn) (rNinX X.K) := OpR.or (OpR.or op_notIn_seq (op_notInD hu)) op_notIn_str
theorem any_py {d : D} : ∀ xs : List D, (toPyAll xs).any (fun z => PyData.eqv z (toPy d)) = xs.any fun z => deq z d
  | [] => rfl
  | x :: xs => by
    show (toPy x :: toPyAll xs).any _ = _
    rw [List.any_cons, List.any_cons, any_py xs, deq_py]
theorem toPy_lst {y : D} {xs : List D} (h : seqD y = some xs) (hl : isLst y = true) : toPy y = .list (toPyAll xs) := by
  cases y with
  | lst ys => simp only [seqD, Option.some.injEq] at h; subst h; simp [toPy]
  | klst ys => simp only [seqD, Option.some.injEq] at h; subst h; simp [toPy]
  | _ => cases hl
theorem o_in {K} : Op2 K (rInX K) inD := fun φ Hf H x y d v u Q s r1 r2 e k => by
  unfold inD at e; split at e
  · rename_i b hb; cases e
    unfold inB at hb
    split at hb
    · rename_i xs hx
      split at hb
      · rename_i hc
        cases hb
        have hc' : flatD x = true ∧ xs.all flatD = true := by simpa [List.all_eq_true] using hc
        obtain ⟨p, vs, e1, e2, e3⟩ := r2.seq s hx
        have w1 := r1.scal_v (by cases x <;> first | rfl | (cases hc'.1))
        exact .inl (.inl ⟨p, vs, e1, e2, flat_v w1 hc'.1, flat_all e3 hc'.2, by
          show Q (.bl (if false = true then _ else inV v vs)) H
          rw [if_neg Bool.false_ne_true, inV_any w1 hc'.1 e3 hc'.2]; exact k _ Hf H (.refl s) (.bl _)⟩)
      · split at hb
        · rename_i hc
          cases hb
          have hc' : (isLst y = true ∧ okD x = true) ∧ okD y = true := by simpa using hc
          have e4 := toPy_lst hx hc'.1.1
          have h5 : okD y = true := hc'.2
          refine .inl (.inr ⟨toPy x, toPyAll xs, (r1.all s).dp' hc'.1.2, by rw [← e4]; exact (r2.all s).dp' h5, hc'.1.2, by rw [← e4]; exact h5, ?_⟩)
          rw [any_py]; exact k _ Hf H (.refl s) (.bl _)
        · cases hb
    · split at hb
      · cases hb
        exact .inr ⟨_, _, r1.str, r2.str, k _ Hf H (.refl s) (.bl _)⟩
      · cases hb
  · cases e
theorem o_nin {K} : Op2 K (rNinX K) ninD := fun φ Hf H x y d v u Q s r1 r2 e k => by
  unfold ninD at e; split at e
  · rename_i b hb; cases e
    unfold inB at hb
    split at hb
    · rename_i xs hx
      split at hb
      · rename_i hc
        cases hb
        have hc' : flatD x = true ∧ xs.all flatD = true := by simpa [List.all_eq_true] using hc
        obtain ⟨p, vs, e1, e2, e3⟩ := r2.seq s hx
        have w1 := r1.scal_v (by cases x <;> first | rfl | (cases hc'.1))
        exact .inl (.inl ⟨p, vs, e1, e2, flat_v w1 hc'.1, flat_all e3 hc'.2, by
          show Q (.bl (if true = true then !inV v vs else _)) H
          rw [if_pos rfl, inV_any w1 hc'.1 e3 hc'.2]; exact k _ Hf H (.refl s) (.bl _)⟩)
      · split at hb
        · rename_i hc
          cases hb
          have hc' : (isLst y = true ∧ okD x = true) ∧ okD y = true := by simpa using hc
          have e4 := toPy_lst hx hc'.1.1
          have h5 : okD y = true := hc'.2
          refine .inl (.inr ⟨toPy x, toPyAll xs, (r1.all s).dp' hc'.1.2, by rw [← e4]; exact (r2.all s).dp' h5, hc'.1.2, by rw [← e4]; exact h5, ?_⟩)
          rw [any_py]; exact k _ Hf H (.refl s) (.bl _)
        · cases hb
    · split at hb
      · cases hb
        exact .inr ⟨_, _, r1.str, r2.str, k _ Hf H (.refl s) (.bl _)⟩
      · cases hb
  · cases e
/-! items -/
theorem atI_rp {K : PySem.W.Frag} {φ : Nat → Addr} {H : Hp} {xs : List D} {vs : List V} {i : Int} {d : D} (r : RpAll K φ H xs vs) (h : atI xs i = some d) : ∃ v, atI vs i = some v ∧ Rp K φ H d v := by
  unfold atI at h ⊢
  rw [r.length] at h
  cases q : ixN vs.length i with
  | none => rw [q] at h; cases h
  | some j =>
    rw [q] at h
    exact r.get h
theorem o_ix {K} : Op2 K (rIx K) ixD := fun φ Hf H x y d v u Q s r1 r2 e k => by
  unfold ixD at e; split at e
  · rename_i i
    have hu := r2.int
    subst hu
    split at e
    · obtain ⟨a, vs, e1, q1, w1⟩ := r1.lst s
      obtain ⟨z, h1, h2⟩ := atI_rp w1 e
      exact .inl ⟨a, vs, i, z, e1, rfl, .inl (.inl q1), h1, k z Hf H (.refl s) h2⟩
    · rename_i xs
      obtain ⟨p, vs, e1, e2, e3⟩ := r1.seq s (xs := xs) rfl
      obtain ⟨z, h1, h2⟩ := atI_rp e3 e
      rcases e2 with e2 | e2
      · exact .inl ⟨p, vs, i, z, e1, rfl, e2, h1, k z Hf H (.refl s) h2⟩
      · exact .inr (.inl ⟨p, vs, i, z, e1, rfl, e2, h1, k z Hf H (.refl s) h2⟩)
    · obtain ⟨a, vs, e1, q1, w1⟩ := r1.tup
      obtain ⟨z, h1, h2⟩ := atI_rp w1 e
      exact .inr (.inl ⟨a, vs, i, z, e1, rfl, SqT_same s q1, h1, k z Hf H (.refl s) h2⟩)
    · have hv := r1.str
      subst hv
      split at e
      · rename_i hl
        split at e
        · rename_i c hc
          cases e
          exact .inr (.inr ⟨_, i, c, rfl, rfl, hl, hc, k _ Hf H (.refl s) (.str _)⟩)
        · cases e
      · cases e
    · cases e
  · cases e
end
end FL
namespace FL
open PySem L2

/-! ### slices -/
def FO (X : Cx) (O : List Nat) (e : Option Expr) (F : Env → Option (Option Int)) : Prop :=
  ∃ t : TO, PO X e t ∧ ∀ (φ : Nat → Addr) (Hf0 H0 : Hp) (ρ : Env) (σ : St) (Hf H : Hp) (o : Option Int) (Q : Option Int → Hp → Prop), SR X.K φ Hf0 H0 O ρ σ Hf H → F ρ = some o → (∀ Hf' H', Gr Hf H Hf' H' → Q o H') → t σ H Q
def pNo : Env → Option (Option Int) := fun _ => some none
def pYes (F : Env → Option D) : Env → Option (Option Int) := fun ρ => match F ρ with | some (.int i) => some (some i) | _ => none
def cutL (xs : List D) (lo hi : Option Int) : List D := (xs.drop (HT.sIx xs.length 0 lo)).take (HT.sIx xs.length xs.length hi - HT.sIx xs.length 0 lo)
def slD (x : D) (lo hi : Option Int) : Option D := match x with
  | .lst xs => some (.lst (cutL xs lo hi)) | .klst xs => some (.lst (cutL xs lo hi)) | .tup xs => some (.tup (cutL xs lo hi))
  | .str z => if z.length ≤ sizeLine then some (.str (cutS z lo hi)) else none | _ => none
def slN (x : D) (lo hi : Option Int) : Option D := match x with
  | .lst xs => some (.lst (cutL xs lo hi)) | .klst xs => some (.lst (cutL xs lo hi)) | _ => none
def eSl (f : D → Option Int → Option Int → Option D) (F : Env → Option D) (L U : Env → Option (Option Int)) : Env → Option D := fun ρ =>
  match F ρ with | some x => (match L ρ with | some l => (match U ρ with | some u => f x l u | none => none) | none => none) | none => none
section
variable {X : Cx} {O : List Nat} {e : Expr} {F : Env → Option D} {p2 pos : Pos} {lo hi : Option Expr} {L U : Env → Option (Option Int)}
theorem fo_no : FO X O none pNo := ⟨_, po_none, fun φ Hf0 H0 ρ σ Hf H o Q S h k => by cases h; exact k Hf H (.refl S.sub)⟩
theorem fo_yes (h : FE X O e F) : FO X O (some e) (pYes F) := ⟨_, po_some peW, fun φ Hf0 H0 ρ σ Hf H o Q S hF k => by
  unfold pYes at hF
  split at hF
  · rename_i i hi
    cases hF
    refine h φ Hf0 H0 ρ σ Hf H _ _ S hi fun v Hf1 H1 g r => ?_
    cases r
    exact ⟨i, rfl, k Hf1 H1 g⟩
  · cases hF⟩
theorem eSl_some {f : D → Option Int → Option Int → Option D} {ρ : Env} {d : D} (h : eSl f F L U ρ = some d) : ∃ x l u, F ρ = some x ∧ L ρ = some l ∧ U ρ = some u ∧ f x l u = some d := by
  unfold eSl at h
  cases h1 : F ρ with
  | none => rw [h1] at h; cases h
  | some x =>
    simp only [h1] at h
    cases h2 : L ρ with
    | none => simp only [h2] at h; cases h
    | some l =>
      simp only [h2] at h
      cases h3 : U ρ with
      | none => simp only [h3] at h; cases h
      | some u => simp only [h3] at h; exact ⟨x, l, u, rfl, rfl, rfl, h⟩
theorem cut_rp {K : PySem.W.Frag} {φ : Nat → Addr} {H : Hp} {xs : List D} {vs : List V} (r : RpAll K φ H xs vs) (lo hi : Option Int) : RpAll K φ H (cutL xs lo hi) (cutV vs lo hi) := by
  unfold cutL cutV
  rw [r.length]
  exact (r.drop _).take _
def rSlX (K : PySem.W.Frag) : V → Option Int → Option Int → Hp → VK → Prop := fun x lo hi H Q => (rSlL K x lo hi H Q ∨ rSlA K x lo hi H Q) ∨ rSlS x lo hi H Q
theorem sl_X : SlR X (rSlX X.K) := SlR.or (SlR.or sl_list sl_tupA) sl_str
theorem fe_sl (h : FB X O e F) (hl : FO X O lo L) (hu : FO X O hi U) : FE X O (.Subscript e (.Slice lo hi none p2) pos) (eSl slD F L U) := by
  obtain ⟨tl, pl, kl⟩ := hl
  obtain ⟨tu, pu, ku⟩ := hu
  intro φ Hf0 H0 ρ σ Hf H d Q S hF k
  obtain ⟨x, l, u, h1, h2, h3, h4⟩ := eSl_some hF
  refine toE (pe_slice sl_X peW pl pu) ?_
  refine h φ Hf0 H0 ρ σ Hf H x _ S h1 fun v Hf1 H1 g1 r1 => ?_
  refine kl φ Hf0 H0 ρ σ Hf1 H1 l _ (S.gr g1) h2 fun Hf2 H2 g2 => ?_
  refine ku φ Hf0 H0 ρ σ Hf2 H2 u _ ((S.gr g1).gr g2) h3 fun Hf3 H3 g3 => ?_
  have g := g1.trans (g2.trans g3)
  have r := r1.gr (g2.trans g3)
  unfold slD at h4
  split at h4
  · rename_i xs
    cases h4
    obtain ⟨p, vs, e1, e2, e3⟩ := r.lst g3.s
    refine .inl (.inl ⟨p, vs, e1, .inl (.inl e2), fun q hq => ?_⟩)
    have gn : Gr Hf3 H3 _ _ := .new (o := .lst (cutV vs l u)) g3.s hq
    exact k _ _ _ (g.trans gn) (.lst upd_same ((cut_rp e3 l u).mono gn.f))
  · rename_i xs
    cases h4
    rcases r with r | ⟨_, _, _, h, _⟩
    · cases r with
      | klst q r =>
        rename_i vs
        refine .inl (.inl ⟨_, vs, rfl, g3.s.seq q, fun q hq => ?_⟩)
        have gn : Gr Hf3 H3 _ _ := .new (o := .lst (cutV vs l u)) g3.s hq
        exact k _ _ _ (g.trans gn) (.lst upd_same ((cut_rp r l u).mono gn.f))
    · cases h
  · rename_i xs
    cases h4
    obtain ⟨p, vs, e1, e2, e3⟩ := r.tup
    refine .inl (.inr ⟨p, vs, e1, SqT_same g3.s e2, fun hw => ?_, fun _ q hq => ?_⟩)
    · have e4 : cutL xs l u = xs := by
        unfold cutL
        rw [e3.length, hw.1, hw.2]
        rw [List.drop_zero, ← e3.length]
        simp
      rw [e4] at k
      exact k _ _ _ g (e1 ▸ .tup e2 e3)
    · have gn : Gr Hf3 H3 _ _ := .new (o := .tup (cutV vs l u)) g3.s hq
      exact k _ _ _ (g.trans gn) (.tup (.inl (.inl upd_same)) ((cut_rp e3 l u).mono gn.f))
  · split at h4
    · rename_i hz
      cases h4
      have := r.str
      subst this
      exact .inr ⟨_, rfl, hz, k _ _ _ g (.str _)⟩
    · cases h4
  · cases h4
theorem fn_sl (h : FB X O e F) (hl : FO X O lo L) (hu : FO X O hi U) : FN X O (.Subscript e (.Slice lo hi none p2) pos) (eSl slN F L U) := by
  obtain ⟨tl, pl, kl⟩ := hl
  obtain ⟨tu, pu, ku⟩ := hu
  intro φ Hf0 H0 ρ σ Hf H d Q S hF k
  obtain ⟨x, l, u, h1, h2, h3, h4⟩ := eSl_some hF
  refine toE (pe_slice sl_list peW pl pu) ?_
  refine h φ Hf0 H0 ρ σ Hf H x _ S h1 fun v Hf1 H1 g1 r1 => ?_
  refine kl φ Hf0 H0 ρ σ Hf1 H1 l _ (S.gr g1) h2 fun Hf2 H2 g2 => ?_
  refine ku φ Hf0 H0 ρ σ Hf2 H2 u _ ((S.gr g1).gr g2) h3 fun Hf3 H3 g3 => ?_
  have g := g1.trans (g2.trans g3)
  have r := r1.gr (g2.trans g3)
  unfold slN at h4
  split at h4
  · rename_i xs
    cases h4
    obtain ⟨p, vs, e1, e2, e3⟩ := r.lst g3.s
    refine ⟨p, vs, e1, .inl (.inl e2), fun q hq => ?_⟩
    have gn : Gr Hf3 H3 _ _ := .own (o := .lst (cutV vs l u)) g3.s hq
    exact k q _ _ _ _ rfl (g.trans gn) (g.h.free hq) (g3.s.free hq) upd_same (cut_rp e3 l u)
  · rename_i xs
    cases h4
    rcases r with r | ⟨_, _, _, h, _⟩
    · cases r with
      | klst q r =>
        rename_i vs
        refine ⟨_, vs, rfl, g3.s.seq q, fun q hq => ?_⟩
        have gn : Gr Hf3 H3 _ _ := .own (o := .lst (cutV vs l u)) g3.s hq
        exact k q _ _ _ _ rfl (g.trans gn) (g.h.free hq) (g3.s.free hq) upd_same (cut_rp r l u)
    · cases h
  · cases h4
/-- x[::-1] of a list -/
def revD (x : D) : Option D := match x with | .lst xs => some (.lst xs.reverse) | .klst xs => some (.lst xs.reverse) | _ => none
theorem fn_rev {k : Nat} {p1 p3 : Pos} (h : FB X O e F) : FN X O (.Subscript e (.Slice none none (some (.UnaryOp .USub (.Constant (.int 1) k p1) p2)) p3) pos) (e1 revD F) := by
  intro φ Hf0 H0 ρ σ Hf H d Q S hF k
  obtain ⟨x, h1, h2⟩ := e1_some hF
  refine toE (pe_revL peW) ?_
  refine h φ Hf0 H0 ρ σ Hf H x _ S h1 fun v Hf1 H1 g1 r1 => ?_
  have hs : ∃ xs, seqD x = some xs ∧ isLst x = true ∧ d = .lst xs.reverse := by
    unfold revD at h2; split at h2 <;> first | (cases h2; exact ⟨_, rfl, rfl, rfl⟩) | cases h2
  obtain ⟨xs, hx, hl, rfl⟩ := hs
  have hq : ∃ p vs, v = .ref p ∧ SqL X.K H1 p vs ∧ RpAll X.K φ Hf1 xs vs := by
    cases x <;> first | (cases hl) | skip
    · obtain ⟨p, vs, e1, e2, e3⟩ := r1.lst g1.s
      cases hx
      exact ⟨p, vs, e1, .inl (.inl e2), e3⟩
    · cases hx
      rcases r1 with r1 | ⟨_, _, _, h, _⟩
      · cases r1 with | klst q r => exact ⟨_, _, rfl, g1.s.seq q, r⟩
      · cases h
  obtain ⟨p, vs, e1, e2, e3⟩ := hq
  refine ⟨p, vs, e1, e2, fun q hq => ?_⟩
  have gn : Gr Hf1 H1 _ _ := .own (o := .lst vs.reverse) g1.s hq
  exact k q _ _ _ _ rfl (g1.trans gn) (g1.h.free hq) (g1.s.free hq) upd_same e3.reverse
end

end FL
namespace FL
open PySem L2

/-! ### built-in calls by values -/
section
variable {X : Cx} {O : List Nat} {e : Expr} {es : List Expr} {x : Str} {p pos : Pos} {F : Env → Option D} {Fs : Env → Option (List D)} {bid T : String} {r : List V → Hp → VK → Prop} {f : List D → Option D}
theorem CallR.or {v : Value} {r' : List V → Hp → VK → Prop} (h : CallR X v r) (h' : CallR X v r') : CallR X v (fun xs H Q => r xs H Q ∨ r' xs H Q) := fun pins s σ H xs us Q I rl q => q.elim (h pins s σ H xs us Q I rl) (h' pins s σ H xs us Q I rl)
theorem fe_callB (hc : CallR X (.builtin bid) r) (hr : OpL X.K r f) (hg : Gl X x) (hm : X.mg x = none) (hv : bootBuiltins x = some (.builtin bid)) (ha : FBA X O (e :: es) Fs) (hn : x ≠ "__name__" := by decide +kernel) (hdb : (x == ("__debug__" : Str)) = false := by decide +kernel)
    (he : starEach (e :: es) X.env = (false, eval e X.env) :: starEach es X.env := by rfl) (hpl : (backTo pos (starEach es X.env)).any (·.1) = false := by rfl) : FE X O (.Call (.Name x p) (e :: es) [] pos) (eL f Fs) := by
  intro φ Hf0 H0 ρ σ Hf H d Q S hF k
  obtain ⟨xs, h1, h2⟩ := eL_some hF
  refine toE (pe_callB hc hg hm hv paW hn hdb he hpl) ?_
  exact ha φ Hf0 H0 ρ σ Hf H xs _ S h1 fun vs Hf1 H1 g1 r1 => hr φ Hf1 H1 xs d vs Q g1.s r1 h2 fun z Hf2 H2 g2 r2 => k z Hf2 H2 (g1.trans g2) r2
theorem fe_callTy (hc : CallR X (.type T) r) (hr : OpL X.K r f) (hg : Gl X x) (hm : X.mg x = none) (hv : bootBuiltins x = some (.type T)) (ha : FBA X O (e :: es) Fs) (hn : x ≠ "__name__" := by decide +kernel) (hdb : (x == ("__debug__" : Str)) = false := by decide +kernel)
    (he : starEach (e :: es) X.env = (false, eval e X.env) :: starEach es X.env := by rfl) (hpl : (backTo pos (starEach es X.env)).any (·.1) = false := by rfl) : FE X O (.Call (.Name x p) (e :: es) [] pos) (eL f Fs) := by
  intro φ Hf0 H0 ρ σ Hf H d Q S hF k
  obtain ⟨xs, h1, h2⟩ := eL_some hF
  refine toE (pe_callTy hc hg hm hv paW hn hdb he hpl) ?_
  exact ha φ Hf0 H0 ρ σ Hf H xs _ S h1 fun vs Hf1 H1 g1 r1 => hr φ Hf1 H1 xs d vs Q g1.s r1 h2 fun z Hf2 H2 g2 r2 => k z Hf2 H2 (g1.trans g2) r2
theorem fn_callTy (hc : CallR X (.type T) r) (hr : OpLN X.K r f) (hg : Gl X x) (hm : X.mg x = none) (hv : bootBuiltins x = some (.type T)) (ha : FBA X O (e :: es) Fs) (hn : x ≠ "__name__" := by decide +kernel) (hdb : (x == ("__debug__" : Str)) = false := by decide +kernel)
    (he : starEach (e :: es) X.env = (false, eval e X.env) :: starEach es X.env := by rfl) (hpl : (backTo pos (starEach es X.env)).any (·.1) = false := by rfl) : FN X O (.Call (.Name x p) (e :: es) [] pos) (eL f Fs) := by
  intro φ Hf0 H0 ρ σ Hf H d Q S hF k
  obtain ⟨xs, h1, h2⟩ := eL_some hF
  refine toE (pe_callTy hc hg hm hv paW hn hdb he hpl) ?_
  exact ha φ Hf0 H0 ρ σ Hf H xs _ S h1 fun vs Hf1 H1 g1 r1 => hr φ Hf1 H1 xs d vs Q g1.s r1 h2 fun a ys us H2 hd g2 q1 q2 r2 => k a ys us Hf1 H2 hd (g1.trans g2) (g1.h.free q1) (g1.s.free q1) q2 r2

/-! len, int, tuple, list, ord, any, all -/
def lenD : List D → Option D := fun xs => match xs with
  | [x] => (match seqD x with | some ys => some (.int ys.length) | none => (match x with | .str z => if z.length ≤ sizeLine then some (.int z.length) else none | _ => none))
  | _ => none
def intD : List D → Option D := fun xs => match xs with | [.int i] => some (.int i) | [.bl b] => some (.int (if b then 1 else 0)) | _ => none
def tupOf : List D → Option D := fun xs => match xs with | [x] => (match seqD x with | some ys => some (.tup ys) | none => none) | _ => none
def listOf : List D → Option D := fun xs => match xs with | [x] => (match seqD x with | some ys => some (.lst ys) | none => none) | _ => none
def ordD : List D → Option D := fun xs => match xs with | [.str x] => if x.length = 1 then some (.int (x.cps.getD 0 0 : Nat)) else none | _ => none
def allBl : List D → Option (List Bool)
  | [] => some [] | .bl b :: ds => (match allBl ds with | some bs => some (b :: bs) | none => none) | _ :: _ => none
def anyD : List D → Option D := fun xs => match xs with | [x] => if isLst x then (match seqD x with | some ys => (match allBl ys with | some bs => some (.bl (bs.any id)) | none => none) | none => none) else none | _ => none
def allD : List D → Option D := fun xs => match xs with | [x] => if isLst x then (match seqD x with | some ys => (match allBl ys with | some bs => some (.bl (bs.all id)) | none => none) | none => none) else none | _ => none
theorem RpbAll.one {K : PySem.W.Frag} {φ : Nat → Addr} {Hf H : Hp} {d : D} {vs : List V} (r : RpbAll K φ Hf H [d] vs) : ∃ v, vs = [v] ∧ Rpb K φ Hf H d v := by
  cases r with | cons r t => cases t; exact ⟨_, rfl, r⟩
theorem c_len : CallR X (.builtin "len") (fun xs H Q => (∃ p ys, xs = [.ref p] ∧ (SqL X.K H p ys ∨ SqT X.K H p ys) ∧ Q (.int ys.length) H) ∨ (∃ z, xs = [.str z] ∧ z.length ≤ sizeLine ∧ Q (.int z.length) H)) := CallR.or call_len_seq call_len_str
theorem l_len {K} : OpL K (fun xs H Q => (∃ p ys, xs = [.ref p] ∧ (SqL K H p ys ∨ SqT K H p ys) ∧ Q (.int ys.length) H) ∨ (∃ z, xs = [.str z] ∧ z.length ≤ sizeLine ∧ Q (.int z.length) H)) lenD := fun φ Hf H xs d vs Q s r e k => by
  unfold lenD at e
  split at e
  · obtain ⟨v, hv, rr⟩ := r.one; subst hv; clear r; have r := rr; clear rr
    split at e
    · rename_i ys hy
      cases e
      obtain ⟨p, ws, e1, e2, e3⟩ := r.seq s hy
      exact .inl ⟨p, ws, by rw [e1], e2, by rw [← e3.length]; exact k _ Hf H (.refl s) (.int _)⟩
    · split at e
      · split at e
        · rename_i hz; cases e
          have := r.str; subst this
          exact .inr ⟨_, rfl, hz, k _ Hf H (.refl s) (.int _)⟩
        · cases e
      · cases e
  · cases e
theorem l_int {K} : OpL K (fun xs H Q => (∃ i, xs = [.int i] ∧ Q (.int i) H) ∨ ∃ k, xs = [.bl k] ∧ Q (.int (if k then 1 else 0)) H) intD := fun φ Hf H xs d vs Q s r e k => by
  unfold intD at e
  split at e
  · cases e
    obtain ⟨v, hv, rr⟩ := r.one; subst hv; clear r; have r := rr; clear rr
    have := r.int; subst this
    exact .inl ⟨_, rfl, k _ Hf H (.refl s) (.int _)⟩
  · cases e
    obtain ⟨v, hv, rr⟩ := r.one; subst hv; clear r; have r := rr; clear rr
    cases r.scal_v rfl
    exact .inr ⟨_, rfl, k _ Hf H (.refl s) (.int _)⟩
  · cases e
theorem l_tup {K} : OpL K (fun xs H Q => ∃ p ys, xs = [.ref p] ∧ ((SqL K H p ys ∧ ∀ l, H l = none → Q (.ref l) (upd H l (.tup ys))) ∨ (SqT K H p ys ∧ Q (.ref p) H))) tupOf := fun φ Hf H xs d vs Q s r e k => by
  unfold tupOf at e
  split at e
  · rename_i x
    obtain ⟨v, hv, rr⟩ := r.one; subst hv; clear r; have r := rr; clear rr
    split at e
    · rename_i ys hy
      cases e
      have fin : ∀ p ws, v = .ref p → SqL K H p ws → RpAll K φ Hf ys ws → ∃ p ys, [v] = [V.ref p] ∧ ((SqL K H p ys ∧ ∀ l, H l = none → Q (.ref l) (upd H l (.tup ys))) ∨ (SqT K H p ys ∧ Q (.ref p) H)) := fun p ws e1 e2 e3 => by
        subst e1
        refine ⟨p, ws, rfl, .inl ⟨e2, fun l hl => ?_⟩⟩
        have gn : Gr Hf H _ _ := .new (o := .tup ws) s hl
        exact k _ _ _ gn (.tup (.inl (.inl upd_same)) (e3.mono gn.f))
      cases x with
      | tup zs =>
        cases hy
        obtain ⟨a, ws, e1, e2, e3⟩ := r.tup
        subst e1
        exact ⟨a, ws, rfl, .inr ⟨SqT_same s e2, k _ Hf H (.refl s) (.tup e2 e3)⟩⟩
      | lst zs =>
        cases hy
        obtain ⟨a, ws, e1, e2, e3⟩ := r.lst s
        exact fin a ws e1 (.inl (.inl e2)) e3
      | klst zs =>
        cases hy
        rcases r with r | ⟨_, _, _, h, _⟩
        · cases r with | klst q r => exact fin _ _ rfl (s.seq q) r
        · cases h
      | _ => cases hy
    · cases e
  · cases e
theorem l_list {K} : OpLN K (fun xs H Q => ∃ p ys, xs = [.ref p] ∧ (SqL K H p ys ∨ SqT K H p ys) ∧ ∀ l, H l = none → Q (.ref l) (upd H l (.lst ys))) listOf := fun φ Hf H xs d vs Q s r e k => by
  unfold listOf at e
  split at e
  · obtain ⟨v, hv, rr⟩ := r.one; subst hv; clear r; have r := rr; clear rr
    split at e
    · rename_i ys hy
      cases e
      obtain ⟨p, ws, e1, e2, e3⟩ := r.seq s hy
      refine ⟨p, ws, by rw [e1], e2, fun l hl => ?_⟩
      exact k l _ _ _ rfl (.own s hl) hl upd_same e3
    · cases e
  · cases e
theorem l_ord {K} : OpL K (fun xs H Q => ∃ x, xs = [.str x] ∧ x.length = 1 ∧ Q (.int (x.cps.getD 0 0 : Nat)) H) ordD := fun φ Hf H xs d vs Q s r e k => by
  unfold ordD at e
  split at e
  · split at e
    · rename_i hz; cases e
      obtain ⟨v, hv, rr⟩ := r.one; subst hv; clear r; have r := rr; clear rr
      have := r.str; subst this
      exact ⟨_, rfl, hz, k _ Hf H (.refl s) (.int _)⟩
    · cases e
  · cases e
theorem allBl_v {K : PySem.W.Frag} {φ : Nat → Addr} {H : Hp} : ∀ {ds : List D} {vs : List V} {bs : List Bool}, RpAll K φ H ds vs → allBl ds = some bs → vs = bs.map V.bl
  | _, _, _, .nil, h => by cases h; rfl
  | d :: ds, _, bs, .cons r t, h => by
    cases d <;> first | (simp only [allBl] at h; done) | skip
    all_goals first | (simp [allBl] at h; done) | skip
    rename_i b
    simp only [allBl] at h
    split at h
    · rename_i bs' hb
      cases h
      cases r
      rw [allBl_v t hb]; rfl
    · cases h
theorem isLst_sq {K : PySem.W.Frag} {φ : Nat → Addr} {Hf H : Hp} {x : D} {v : V} {ys : List D} (s : Same Hf H) (r : Rpb K φ Hf H x v) (hl : isLst x = true) (hy : seqD x = some ys) : ∃ p ws, v = .ref p ∧ SqL K H p ws ∧ RpAll K φ Hf ys ws := by
  cases x <;> first | (cases hl) | skip
  · cases hy
    obtain ⟨p, vs, e1, e2, e3⟩ := r.lst s
    exact ⟨p, vs, e1, .inl (.inl e2), e3⟩
  · cases hy
    rcases r with r | ⟨_, _, _, h, _⟩
    · cases r with | klst q r => exact ⟨_, _, rfl, s.seq q, r⟩
    · cases h
theorem l_any {K} : OpL K (rAny K) anyD := fun φ Hf H xs d vs Q s r e k => by
  unfold anyD at e
  split at e
  · obtain ⟨v, hv, rr⟩ := r.one; subst hv; clear r; have r := rr; clear rr
    split at e
    · rename_i hl
      split at e
      · rename_i ys hy
        split at e
        · rename_i bs hb
          cases e
          obtain ⟨p, ws, e1, e2, e3⟩ := isLst_sq s r hl hy
          have e4 := allBl_v e3 hb
          subst e4 e1
          exact ⟨p, bs, rfl, e2, k _ Hf H (.refl s) (.bl _)⟩
        · cases e
      · cases e
    · cases e
  · cases e
theorem l_all {K} : OpL K (rAll K) allD := fun φ Hf H xs d vs Q s r e k => by
  unfold allD at e
  split at e
  · obtain ⟨v, hv, rr⟩ := r.one; subst hv; clear r; have r := rr; clear rr
    split at e
    · rename_i hl
      split at e
      · rename_i ys hy
        split at e
        · rename_i bs hb
          cases e
          obtain ⟨p, ws, e1, e2, e3⟩ := isLst_sq s r hl hy
          have e4 := allBl_v e3 hb
          subst e4 e1
          exact ⟨p, bs, rfl, e2, k _ Hf H (.refl s) (.bl _)⟩
        · cases e
      · cases e
    · cases e
  · cases e
end
end FL
namespace FL
open PySem L2

/-! ### built-in calls by values -/
section
variable {X : Cx} {O : List Nat} {e : Expr} {es : List Expr} {x : Str} {p pos : Pos} {F : Env → Option D} {Fs : Env → Option (List D)} {bid T : String} {r : List V → Hp → VK → Prop} {f : List D → Option D}
/-! isinstance(x, T) -/
def tyD : D → Option String | .non => some "NoneType" | .bl _ => some "bool" | .int _ => some "int" | .str _ => some "str" | .tup _ => some "tuple" | .lst _ => some "list" | .klst _ => some "list" | .obj _ => none
def isi (T : String) (t : String) : Bool := t == T || (t == "bool" && T == "int")
def isiD (T : String) (d : D) : Option D := match tyD d with | some t => some (.bl (isi T t)) | none => none
theorem isi_tab : (["tuple", "list", "bool", "int", "str"].all fun T => ["NoneType", "bool", "int", "str", "tuple", "list"].all fun t => kitB t T == some (isi T t)) = true := by decide +kernel
theorem kit_isi {K : PySem.W.Frag} {T t : String} {d : D} (hT : T ∈ ["tuple", "list", "bool", "int", "str"]) (h : tyD d = some t) : PySem.W.kitOne K (.type t) (.type T) = some (isi T t) := by
  have h2 : t ∈ ["NoneType", "bool", "int", "str", "tuple", "list"] := by
    cases d <;> first | (cases h; decide) | cases h
  exact kit_ty (by simpa using (List.all_eq_true.mp ((List.all_eq_true.mp isi_tab) T hT)) t h2)
theorem tyX_of {K : PySem.W.Frag} {φ : Nat → Addr} {H : Hp} {d : D} {v : V} {t : String} (r : Rp K φ H d v) (h : tyD d = some t) : TyX K H v (.type t) := by
  cases r <;> first | (cases h) | skip
  · exact .base .non
  · exact .base (.bl _)
  · exact .base (.int _)
  · exact .base (.str _)
  · rename_i q _
    rcases q with (q | ⟨o, q⟩) | ⟨o, its, n, q, hc, _⟩
    · exact .base (.tup q)
    · exact .fTuple q
    · exact .kTuple q hc
  · rename_i q _
    exact .base (.lst q)
  · rename_i q _
    rcases q with (q | ⟨o, q⟩) | ⟨o, its, n, q, hc, _⟩
    · exact .base (.lst q)
    · exact .base (.frz q)
    · exact .kList q hc
theorem fe_isi {y : Str} {py : Pos} (hT : T ∈ ["tuple", "list", "bool", "int", "str"]) (hg : Gl X x) (hm : X.mg x = none) (hv : bootBuiltins x = some (.builtin "isinstance")) (hg2 : Gl X y) (hm2 : X.mg y = none) (hv2 : bootBuiltins y = some (.type T)) (h : FB X O e F)
    (hn : x ≠ "__name__" := by decide +kernel) (hdb : (x == ("__debug__" : Str)) = false := by decide +kernel) (hn2 : y ≠ "__name__" := by decide +kernel) (hdb2 : (y == ("__debug__" : Str)) = false := by decide +kernel)
    (hs : starEach [e, .Name y py] X.env = (false, eval e X.env) :: starEach [.Name y py] X.env := by rfl) (hs2 : starEach [.Name y py] X.env = (false, eval (.Name y py) X.env) :: starEach [] X.env := by rfl)
    (hpl : (backTo pos (starEach [.Name y py] X.env)).any (·.1) = false := by rfl) : FE X O (.Call (.Name x p) [e, .Name y py] [] pos) (e1 (isiD T) F) := by
  intro φ Hf0 H0 ρ σ Hf H d Q S hF k
  obtain ⟨z, h1, h2⟩ := e1_some hF
  refine toE (pe_callB call_isi hg hm hv (pa_cons peW (pa_cons (pe_bltn hg2 hm2 hv2 (v := .ty T) rfl hn2 hdb2) pa_nil hs2) hs) hn hdb hs hpl) ?_
  refine h φ Hf0 H0 ρ σ Hf H z _ S h1 fun v Hf1 H1 g1 r1 => ?_
  unfold isiD at h2
  split at h2
  · rename_i t ht
    cases h2
    exact ⟨v, .ty T, .type t, .type T, isi T t, rfl, .ty T, tyX_of (r1.all g1.s) ht, kit_isi hT ht, k _ Hf1 H1 g1 (.bl _)⟩
  · cases h2
end
end FL
namespace FL
open PySem L2

/-! ### targets -/
def wG (X : Cx) (tg : Expr) : TG := fun v σ H Q => ∀ pins s u, Inv X pins σ H s → RelV v u → wpAny (model X.prog X.w) X.A (assign tg X.env u) (fun _ s' => ∃ σ' H', Inv X pins σ' H' s' ∧ Q σ' H') X.xe s
def wGs (X : Cx) (ts : List Expr) : TGs := fun vs σ H Q => ∀ pins s us, Inv X pins σ H s → Vals vs us → wpAny (model X.prog X.w) X.A (assignInOrder ((assignEach ts X.env).map (·.2)) us) (fun _ s' => ∃ σ' H', Inv X pins σ' H' s' ∧ Q σ' H') X.xe s
/-- what a target's store says: tgs, the slots that it stores -/
def FG (X : Cx) (O O' : List Nat) (tgs : List Nat) (tg : Expr) (g : D → Env → Option Env) : Prop :=
  ∀ (φ : Nat → Addr) (Hf0 H0 : Hp) (ρ : Env) (σ : St) (Hf H : Hp) (d : D) (v : V) (ρ' : Env) (Q : St → Hp → Prop), SR X.K φ Hf0 H0 O ρ σ Hf H → Rp X.K φ Hf d v → g d ρ = some ρ' →
    (∀ σ', SR X.K φ Hf0 H0 O' ρ' σ' Hf H → (∀ vs : List Nat, (∀ i ∈ tgs, i ∈ vs) → wipe σ' vs = wipe σ vs) → Q σ' H) → wG X tg v σ H Q
def FGs (X : Cx) (O O' : List Nat) (tgs : List Nat) (ts : List Expr) (g : List D → Env → Option Env) : Prop :=
  ∀ (φ : Nat → Addr) (Hf0 H0 : Hp) (ρ : Env) (σ : St) (Hf H : Hp) (ds : List D) (vs : List V) (ρ' : Env) (Q : St → Hp → Prop), SR X.K φ Hf0 H0 O ρ σ Hf H → RpAll X.K φ Hf ds vs → g ds ρ = some ρ' →
    (∀ σ', SR X.K φ Hf0 H0 O' ρ' σ' Hf H → (∀ vs : List Nat, (∀ i ∈ tgs, i ∈ vs) → wipe σ' vs = wipe σ vs) → Q σ' H) → wGs X ts vs σ H Q
def gSet (i : Nat) : D → Env → Option Env := fun d ρ => some (ρ.set i (some d))
def gNil : List D → Env → Option Env := fun ds ρ => match ds with | [] => some ρ | _ => none
def gCons (g : D → Env → Option Env) (gs : List D → Env → Option Env) : List D → Env → Option Env := fun ds ρ => match ds with
  | d :: ds => (match g d ρ with | some ρ' => gs ds ρ' | none => none) | [] => none
def gTup (g : List D → Env → Option Env) : D → Env → Option Env := fun d ρ => match d with | .tup ds => g ds ρ | _ => none
section
variable {X : Cx} {O O' O2 : List Nat} {tgs tgs2 : List Nat} {tg : Expr} {ts : List Expr} {pos : Pos} {g : D → Env → Option Env} {gs : List D → Env → Option Env}
theorem pgW : PG X tg (wG X tg) := ⟨fun pins s σ H v u Q I r h => h pins s u I r⟩
theorem pgsW : PGs X ts (wGs X ts) := ⟨fun pins s σ H vs us Q I r h => h pins s us I r⟩
theorem toG {t : TG} (h : PG X tg t) {v : V} {σ : St} {H : Hp} {Q : St → Hp → Prop} (q : t v σ H Q) : wG X tg v σ H Q := fun pins s u I r => h.run pins s σ H v u Q I r q
theorem toGs {t : TGs} (h : PGs X ts t) {v : List V} {σ : St} {H : Hp} {Q : St → Hp → Prop} (q : t v σ H Q) : wGs X ts v σ H Q := fun pins s u I r => h.run pins s σ H v u Q I r q
theorem wipe_set {σ : St} {i : Nat} {x : Option V} : ∀ {vs : List Nat}, i ∈ vs → wipe (σ.set i x) vs = wipe σ vs
  | [], h => by simp at h
  | v :: vs, h => by
    unfold wipe
    by_cases hi : i ∈ vs
    · rw [wipe_set hi]
    · have e : i = v := by
        rcases List.mem_cons.mp h with e | e
        · exact e
        · exact absurd e hi
      subst e
      have comm : ∀ ws : List Nat, i ∉ ws → wipe (σ.set i x) ws = (wipe σ ws).set i x := by
        intro ws
        induction ws with
        | nil => intro _; rfl
        | cons w ws ih =>
          intro hw
          simp only [List.mem_cons, not_or] at hw
          show (wipe (σ.set i x) ws).set w none = ((wipe σ ws).set w none).set i x
          rw [ih hw.2, List.set_comm _ _ hw.1]
      rw [comm vs hi, List.set_set]
theorem fg_name {i : Nat} {x : Str} (hN : X.N.Nodup) (hi : X.N[i]? = some x) (hx : Loc X.env.scope x) (hf : X.fn x = true ∨ X.env.scope.names.lookup x = some .local := by first | exact .inl rfl | exact .inr rfl | assumption) : FG X O (O.filter (· != i)) [i] (.Name x pos) (gSet i) := by
  intro φ Hf0 H0 ρ σ Hf H d v ρ' Q S r e k
  cases e
  refine toG (pg_name hN hi hx hf) ?_
  exact k _ (S.set i r) fun vs h => wipe_set (h i (by simp))
theorem fgs_nil : FGs X O O [] [] gNil := by
  intro φ Hf0 H0 ρ σ Hf H ds vs ρ' Q S r e k
  unfold gNil at e
  split at e
  · cases e
    cases r
    exact toGs pgs_nil ⟨rfl, k σ S fun _ _ => rfl⟩
  · cases e
theorem fgs_cons (h1 : FG X O O2 tgs tg g) (h2 : FGs X O2 O' tgs2 ts gs) (hs : (assignEach (tg :: ts) X.env).map (·.2) = assign tg X.env :: (assignEach ts X.env).map (·.2) := by rfl) : FGs X O O' (tgs ++ tgs2) (tg :: ts) (gCons g gs) := by
  intro φ Hf0 H0 ρ σ Hf H ds vs ρ' Q S r e k
  unfold gCons at e
  split at e
  · rename_i d ds
    split at e
    · rename_i ρ1 e1
      cases r with
      | cons r rr =>
        refine toGs (pgs_cons pgW pgsW hs) ⟨_, _, rfl, ?_⟩
        refine h1 φ Hf0 H0 ρ σ Hf H d _ ρ1 _ S r e1 fun σ1 S1 w1 => ?_
        refine h2 φ Hf0 H0 ρ1 σ1 Hf H ds _ ρ' _ S1 rr e fun σ2 S2 w2 => ?_
        exact k σ2 S2 fun us hu => (w2 us fun i hi => hu i (List.mem_append_right _ hi)).trans (w1 us fun i hi => hu i (List.mem_append_left _ hi))
    · cases e
  · cases e
theorem fg_tup {k : Nat} {n : Nat} (hc : X.calm = true) (h : FGs X O O' tgs ts gs) (hn : (assignEach ts X.env).length = n := by rfl) (hlen : ∀ ds ρ ρ', gs ds ρ = some ρ' → ds.length = n)
    (hst : (assignEach ts X.env).findIdx? (·.1) = none := by rfl) : FG X O O' tgs (.Tuple ts k pos) (gTup gs) := by
  intro φ Hf0 H0 ρ σ Hf H d v ρ' Q S r e kk
  unfold gTup at e
  split at e
  · cases r with
    | tup q r =>
      refine toG (pg_tup hc pgsW hn hst) ⟨_, _, rfl, SqT_same S.sub q, by rw [← r.length]; exact hlen _ _ _ e, ?_⟩
      exact h φ Hf0 H0 ρ σ Hf H _ _ ρ' Q S r e kk
  · cases e
theorem gNil_len : ∀ ds ρ ρ', gNil ds ρ = some ρ' → ds.length = 0 := fun ds ρ ρ' h => by
  unfold gNil at h; split at h
  · rfl
  · cases h
theorem gCons_len {n : Nat} (h : ∀ ds ρ ρ', gs ds ρ = some ρ' → ds.length = n) : ∀ ds ρ ρ', gCons g gs ds ρ = some ρ' → ds.length = n + 1 := fun ds ρ ρ' e => by
  unfold gCons at e; split at e
  · split at e
    · rw [List.length_cons, h _ _ _ e]
    · cases e
  · cases e
end

/-! ### what is walked -/
/-- the iterator J yields ds, whatever has been made besides -/
def ItD (K : PySem.W.Frag) (φ : Nat → Addr) (Hf : Hp) (ds : List D) (J : It) : Prop :=
  ∀ (i : Nat) (Hf1 H1 : Hp), Same Hf Hf1 → Same Hf1 H1 → (ds.length ≤ i → J.stop i H1) ∧
    ∀ d, ds[i]? = some d → J.go i H1 ∧ ∀ x H2, J.yld i H1 x H2 → ∃ Hf2, Gr Hf1 H1 Hf2 H2 ∧ Rp K φ Hf2 d x
/-- .. while what there was stands -/
def ItB (K : PySem.W.Frag) (φ : Nat → Addr) (Hf H : Hp) (ds : List D) (J : It) : Prop :=
  ∀ (i : Nat) (Hf1 H1 : Hp), Gr Hf H Hf1 H1 → (ds.length ≤ i → J.stop i H1) ∧
    ∀ d, ds[i]? = some d → J.go i H1 ∧ ∀ x H2, J.yld i H1 x H2 → ∃ Hf2, Gr Hf1 H1 Hf2 H2 ∧ Rp K φ Hf2 d x
theorem ItD.b {K : PySem.W.Frag} {φ : Nat → Addr} {Hf H : Hp} {ds : List D} {J : It} (h : ItD K φ Hf ds J) : ItB K φ Hf H ds J := fun i Hf1 H1 g => h i Hf1 H1 g.f g.s
def wI (X : Cx) (tg iter : Expr) : TI := fun σ H R => ∀ pins s, Inv X pins σ H s → wpAny (model X.prog X.w) X.A (eval iter X.env) (fun v s1 => wpAny (model X.prog X.w) X.A (pyIter v) (PIE X pins σ tg R) X.xe s1) X.xe s
theorem piW {X : Cx} {tg iter : Expr} : PI X tg iter (wI X tg iter) := ⟨fun pins s σ H R I h => h pins s I⟩
theorem toI {X : Cx} {tg iter : Expr} {t : TI} (h : PI X tg iter t) {σ : St} {H : Hp} {R : It → Hp → Prop} (q : t σ H R) : wI X tg iter σ H R := fun pins s I => h.run pins s σ H R I q
def FI (X : Cx) (O : List Nat) (tg iter : Expr) (F : Env → Option (List D)) : Prop :=
  ∀ (φ : Nat → Addr) (Hf0 H0 : Hp) (ρ : Env) (σ : St) (Hf H : Hp) (ds : List D) (R : It → Hp → Prop), SR X.K φ Hf0 H0 O ρ σ Hf H → F ρ = some ds → (∀ J Hf' H', Gr Hf H Hf' H' → ItD X.K φ Hf' ds J → R J H') → wI X tg iter σ H R
def FIB (X : Cx) (O : List Nat) (tg iter : Expr) (F : Env → Option (List D)) : Prop :=
  ∀ (φ : Nat → Addr) (Hf0 H0 : Hp) (ρ : Env) (σ : St) (Hf H : Hp) (ds : List D) (R : It → Hp → Prop), SR X.K φ Hf0 H0 O ρ σ Hf H → F ρ = some ds → (∀ J Hf' H', Gr Hf H Hf' H' → ItB X.K φ Hf' H' ds J → R J H') → wI X tg iter σ H R
def iSeq (p : D → Bool) (F : Env → Option D) : Env → Option (List D) := fun ρ => match F ρ with | some d => if p d then seqD d else none | none => none
def isTup : D → Bool | .tup _ => true | _ => false
def iStr (F : Env → Option D) : Env → Option (List D) := fun ρ => match F ρ with | some (.str z) => some (z.cps.toList.map fun c => .str ⟨#[c]⟩) | _ => none
def rngD (lo : Int) (n : Nat) : List D := (List.range n).map fun (k : Nat) => D.int (lo + (k : Int))
def iRng1 (F : Env → Option (List D)) : Env → Option (List D) := fun ρ => match F ρ with | some [.int j] => if -(2 ^ 62) ≤ j ∧ j < 2 ^ 62 then some (rngD 0 j.toNat) else none | _ => none
def iRng2 (F : Env → Option (List D)) : Env → Option (List D) := fun ρ => match F ρ with | some [.int i, .int j] => if -(2 ^ 62) ≤ i ∧ i < 2 ^ 62 ∧ -(2 ^ 62) ≤ j ∧ j < 2 ^ 62 then some (rngD i (j - i).toNat) else none | _ => none
def enumL : Nat → List D → List D
  | _, [] => [] | k, d :: ds => .tup [.int (k : Nat), d] :: enumL (k + 1) ds
def iEnum (F : Env → Option D) : Env → Option (List D) := fun ρ => match F ρ with | some d => if isLst d then (match seqD d with | some ds => some (enumL 0 ds) | none => none) else none | none => none
section
variable {X : Cx} {O : List Nat} {tg e a b : Expr} {p pos : Pos} {F G : Env → Option D} {Fs : Env → Option (List D)}
theorem itD_list {K : PySem.W.Frag} {φ : Nat → Addr} {Hf : Hp} {a : Addr} {ds : List D} {vs : List V} (q : SqL K Hf a vs) (r : RpAll K φ Hf ds vs) : ItD K φ Hf ds (Itl K a) := fun i Hf1 H1 s1 s2 => by
  have q1 := (s1.trans s2).seq q
  refine ⟨fun h => ⟨vs, q1, by rw [← r.length]; exact h⟩, fun d hd => ?_⟩
  obtain ⟨v, e1, r1⟩ := r.get hd
  refine ⟨⟨vs, v, q1, e1⟩, fun x H2 ⟨e2, e3⟩ => ?_⟩
  subst e2
  have := e3 vs q1
  rw [e1] at this
  cases this
  exact ⟨Hf1, .refl s2, r1.mono s1⟩
theorem itD_tup {K : PySem.W.Frag} {φ : Nat → Addr} {Hf : Hp} {a : Addr} {ds : List D} {vs : List V} (q : SqT K Hf a vs) (r : RpAll K φ Hf ds vs) : ItD K φ Hf ds (Itt K a) := fun i Hf1 H1 s1 s2 => by
  have q1 := SqT_same (s1.trans s2) q
  refine ⟨fun h => ⟨vs, q1, by rw [← r.length]; exact h⟩, fun d hd => ?_⟩
  obtain ⟨v, e1, r1⟩ := r.get hd
  refine ⟨⟨vs, v, q1, e1⟩, fun x H2 ⟨e2, e3⟩ => ?_⟩
  subst e2
  have := e3 vs q1
  rw [e1] at this
  cases this
  exact ⟨Hf1, .refl s2, r1.mono s1⟩
theorem itB_list {K : PySem.W.Frag} {φ : Nat → Addr} {Hf H : Hp} {a : Addr} {ds : List D} {vs : List V} (q : SqL K H a vs) (r : RpAll K φ Hf ds vs) : ItB K φ Hf H ds (Itl K a) := fun i Hf1 H1 g => by
  have q1 := g.h.seq q
  refine ⟨fun h => ⟨vs, q1, by rw [← r.length]; exact h⟩, fun d hd => ?_⟩
  obtain ⟨v, e1, r1⟩ := r.get hd
  refine ⟨⟨vs, v, q1, e1⟩, fun x H2 ⟨e2, e3⟩ => ?_⟩
  subst e2
  have := e3 vs q1
  rw [e1] at this
  cases this
  exact ⟨Hf1, .refl g.s, r1.mono g.f⟩
theorem iSeq_some {pp : D → Bool} {ρ : Env} {ds : List D} (h : iSeq pp F ρ = some ds) : ∃ d, F ρ = some d ∧ pp d = true ∧ seqD d = some ds := by
  unfold iSeq at h
  split at h
  · rename_i d hd
    split at h
    · rename_i hp; exact ⟨d, hd, hp, h⟩
    · cases h
  · cases h
theorem Rp.lst_f {K : PySem.W.Frag} {φ : Nat → Addr} {Hf : Hp} {d : D} {v : V} {ds : List D} (r : Rp K φ Hf d v) (h1 : isLst d = true) (h2 : seqD d = some ds) : ∃ a vs, v = .ref a ∧ SqL K Hf a vs ∧ RpAll K φ Hf ds vs := by
  cases r <;> first | (cases h1) | skip
  · rename_i q r; cases h2; exact ⟨_, _, rfl, .inl (.inl q), r⟩
  · rename_i q r; cases h2; exact ⟨_, _, rfl, q, r⟩
theorem fi_list (h : FE X O e F) : FI X O tg e (iSeq isLst F) := by
  intro φ Hf0 H0 ρ σ Hf H ds R S hF k
  obtain ⟨d, h1, h2, h3⟩ := iSeq_some hF
  refine toI (pi_list peW) ?_
  refine h φ Hf0 H0 ρ σ Hf H d _ S h1 fun v Hf1 H1 g1 r1 => ?_
  obtain ⟨a, vs, e1, q, r⟩ := r1.lst_f h2 h3
  exact ⟨a, e1, ⟨vs, g1.s.seq q⟩, k _ Hf1 H1 g1 (itD_list q r)⟩
theorem fib_of (h : FI X O tg e Fs) : FIB X O tg e Fs := fun φ Hf0 H0 ρ σ Hf H ds R S hF k => h φ Hf0 H0 ρ σ Hf H ds R S hF fun J Hf1 H1 g i => k J Hf1 H1 g i.b
theorem fib_list (h : FB X O e F) : FIB X O tg e (iSeq isLst F) := by
  intro φ Hf0 H0 ρ σ Hf H ds R S hF k
  obtain ⟨d, h1, h2, h3⟩ := iSeq_some hF
  refine toI (pi_list peW) ?_
  refine h φ Hf0 H0 ρ σ Hf H d _ S h1 fun v Hf1 H1 g1 r1 => ?_
  obtain ⟨p, ws, e1, e2, e3⟩ := isLst_sq g1.s r1 h2 h3
  exact ⟨p, e1, ⟨ws, e2⟩, k _ Hf1 H1 g1 (itB_list e2 e3)⟩
theorem fi_tup (h : FE X O e F) : FI X O tg e (iSeq isTup F) := by
  intro φ Hf0 H0 ρ σ Hf H ds R S hF k
  obtain ⟨d, h1, h2, h3⟩ := iSeq_some hF
  refine toI (pi_tup peW) ?_
  refine h φ Hf0 H0 ρ σ Hf H d _ S h1 fun v Hf1 H1 g1 r1 => ?_
  cases r1 <;> first | (cases h2) | skip
  rename_i q r
  cases h3
  exact ⟨_, rfl, ⟨_, SqT_same g1.s q⟩, k _ Hf1 H1 g1 (itD_tup q r)⟩
theorem fi_str (h : FE X O e F) : FI X O tg e (iStr F) := by
  intro φ Hf0 H0 ρ σ Hf H ds R S hF k
  unfold iStr at hF
  split at hF
  · rename_i z hz
    cases hF
    refine toI (pi_str peW) ?_
    refine h φ Hf0 H0 ρ σ Hf H _ _ S hz fun v Hf1 H1 g1 r1 => ?_
    cases r1
    refine ⟨z, rfl, k _ Hf1 H1 g1 fun i Hf2 H2 s1 s2 => ⟨fun hl => ?_, fun d hd => ?_⟩⟩
    · rw [List.length_map, Array.length_toList] at hl; exact hl
    · rw [List.getElem?_map] at hd
      cases hq : z.cps.toList[i]? with
      | none => rw [hq] at hd; cases hd
      | some c =>
        rw [hq] at hd; cases hd
        have hc : z.cps[i]? = some c := by rw [← Array.getElem?_toList]; exact hq
        refine ⟨(Array.getElem?_eq_some_iff.mp hc).1, fun x H3 ⟨e1, c', e2, e3⟩ => ?_⟩
        subst e1 e3
        rw [hc] at e2; cases e2
        exact ⟨Hf2, .refl s2, .str _⟩
  · cases hF
theorem itD_rng {K : PySem.W.Frag} {φ : Nat → Addr} {Hf : Hp} {lo : Int} {n : Nat} : ItD K φ Hf (rngD lo n) (Itr lo n) := fun i Hf1 H1 s1 s2 => by
  unfold rngD
  refine ⟨fun h => by show n ≤ i; simpa using h, fun d hd => ?_⟩
  rw [List.getElem?_map] at hd
  cases hq : (List.range n)[i]? with
  | none => rw [hq] at hd; cases hd
  | some c =>
    rw [hq] at hd; cases hd
    obtain ⟨h1, h2⟩ := List.getElem?_eq_some_iff.mp hq
    have h3 : i < n := by simpa using h1
    have h4 : c = i := by simpa using h2.symm
    subst h4
    exact ⟨h3, fun x H2 ⟨e1, e2⟩ => by subst e1 e2; exact ⟨Hf1, .refl s2, .int _⟩⟩
theorem fi_rng1 (hg : Gl X "range") (hm : X.mg "range" = none) (h : FA X O [a] Fs) (hs : starEach [a] X.env = [(false, eval a X.env)] := by rfl) : FI X O tg (.Call (.Name "range" p) [a] [] pos) (iRng1 Fs) := by
  intro φ Hf0 H0 ρ σ Hf H ds R S hF k
  unfold iRng1 at hF
  split at hF
  · rename_i j hj
    split at hF
    · rename_i hb
      cases hF
      refine toI (pi_range1 hg hm paW hs) ?_
      refine h φ Hf0 H0 ρ σ Hf H _ _ S hj fun vs Hf1 H1 g1 r1 => ?_
      cases r1 with
      | cons r t =>
        cases t
        cases r
        exact ⟨j, rfl, hb.1, hb.2, k _ Hf1 H1 g1 itD_rng⟩
    · cases hF
  · cases hF
theorem fi_rng2 (hg : Gl X "range") (hm : X.mg "range" = none) (h : FA X O [a, b] Fs) (hs : starEach [a, b] X.env = [(false, eval a X.env), (false, eval b X.env)] := by rfl) (hs2 : starEach [b] X.env = [(false, eval b X.env)] := by rfl) : FI X O tg (.Call (.Name "range" p) [a, b] [] pos) (iRng2 Fs) := by
  intro φ Hf0 H0 ρ σ Hf H ds R S hF k
  unfold iRng2 at hF
  split at hF
  · rename_i i j hj
    split at hF
    · rename_i hb
      cases hF
      refine toI (pi_range2 hg hm paW hs hs2) ?_
      refine h φ Hf0 H0 ρ σ Hf H _ _ S hj fun vs Hf1 H1 g1 r1 => ?_
      cases r1 with
      | cons r t =>
        cases t with
        | cons r2 t =>
          cases t
          cases r
          cases r2
          exact ⟨i, j, rfl, hb, k _ Hf1 H1 g1 itD_rng⟩
    · cases hF
  · cases hF
theorem enumL_get : ∀ (ds : List D) (k i : Nat), (enumL k ds)[i]? = (ds[i]?).map fun d => D.tup [.int ((k + i : Nat) : Int), d]
  | [], k, i => by simp [enumL]
  | d :: ds, k, 0 => by simp [enumL]
  | d :: ds, k, i + 1 => by
    simp only [enumL, List.getElem?_cons_succ]
    rw [enumL_get ds (k + 1) i, show k + 1 + i = k + (i + 1) by omega]
theorem enumL_len : ∀ (ds : List D) (k : Nat), (enumL k ds).length = ds.length
  | [], _ => rfl
  | d :: ds, k => by simp [enumL, enumL_len ds]
theorem fi_enum {elts : List Expr} {kk : Nat} {tpos : Pos} (hg : Gl X "enumerate") (hm : X.mg "enumerate" = none) (h : FE X O e F) (hs : starEach [e] X.env = [(false, eval e X.env)] := by rfl) (hs' : starEach [e] X.env = (false, eval e X.env) :: starEach [] X.env := by rfl) :
    FI X O (.Tuple elts kk tpos) (.Call (.Name "enumerate" p) [e] [] pos) (iEnum F) := by
  intro φ Hf0 H0 ρ σ Hf H ds R S hF k
  unfold iEnum at hF
  split at hF
  · rename_i d hd
    split at hF
    · rename_i hl
      split at hF
      · rename_i ys hy
        cases hF
        refine toI (pi_enum hg hm (pa_cons peW pa_nil hs') hs) ?_
        refine h φ Hf0 H0 ρ σ Hf H d _ S hd fun v Hf1 H1 g1 r1 => ?_
        obtain ⟨a, vs, e1, q, r⟩ := r1.lst_f hl hy
        refine ⟨a, vs, by rw [e1], g1.s.seq q, k _ Hf1 H1 g1 fun i Hf2 H2 s1 s2 => ?_⟩
        have q1 := (s1.trans s2).seq q
        refine ⟨fun hl => ⟨vs, q1, by rw [← r.length, ← enumL_len ys 0]; exact hl⟩, fun d' hd' => ?_⟩
        rw [enumL_get] at hd'
        cases hq : ys[i]? with
        | none => rw [hq] at hd'; cases hd'
        | some y =>
          rw [hq] at hd'; cases hd'
          obtain ⟨w, e4, r4⟩ := r.get hq
          refine ⟨⟨vs, w, q1, e4⟩, fun x H3 ⟨T, z, e5, e6, e7, e8⟩ => ?_⟩
          have e9 := e8 vs q1
          rw [e4] at e9; cases e9
          subst e5 e7
          have g : Gr Hf2 H2 _ _ := .new (o := .tup [.int (i : Nat), w]) s2 e6
          refine ⟨_, g, .tup (.inl (.inl upd_same)) ?_⟩
          rw [Nat.zero_add]
          exact .cons (.int _) (.cons (r4.mono (s1.trans g.f)) .nil)
      · cases hF
    · cases hF
  · cases hF
end

/-! ### list comprehensions -/
def wipeE (ρ : Env) : List Nat → Env
  | [] => ρ
  | v :: vs => (wipeE ρ vs).set v none
def compL (g : D → Env → Option Env) (T : Env → Option Bool) (E : Env → Option D) (ρ : Env) : List D → Option (List D)
  | [] => some []
  | d :: ds => match g d ρ with
    | none => none
    | some ρ2 => match T ρ2 with
      | none => none
      | some false => compL g T E ρ ds
      | some true => match E ρ2 with
        | none => none
        | some y => match compL g T E ρ ds with | none => none | some ys => some (y :: ys)
def eComp (vs : List Nat) (Fi : Env → Option (List D)) (g : D → Env → Option Env) (T : Env → Option Bool) (E : Env → Option D) : Env → Option D := fun ρ =>
  match Fi ρ with | some ds => if ds.length ≤ sizeLine then (match compL g T E (wipeE ρ vs) ds with | some ys => some (.lst ys) | none => none) else none | none => none
def tYesE : Env → Option Bool := fun _ => some true
theorem wipeE_len (ρ : Env) : ∀ vs : List Nat, (wipeE ρ vs).length = ρ.length
  | [] => rfl
  | v :: vs => by unfold wipeE; rw [List.length_set, wipeE_len ρ vs]
theorem wipeE_some {ρ : Env} {i : Nat} {x : D} : ∀ {vs : List Nat}, (wipeE ρ vs)[i]? = some (some x) → ρ[i]? = some (some x) ∧ i ∉ vs
  | [], h => ⟨h, by simp⟩
  | v :: vs, h => by
    unfold wipeE at h
    by_cases hi : v = i
    · subst hi
      by_cases hv : v < (wipeE ρ vs).length
      · rw [List.getElem?_set_self hv] at h; cases h
      · rw [List.getElem?_eq_none (by simpa using hv)] at h; cases h
    · rw [List.getElem?_set_ne hi] at h
      obtain ⟨h1, h2⟩ := wipeE_some h
      exact ⟨h1, by simp only [List.mem_cons, not_or]; exact ⟨fun e => hi e.symm, h2⟩⟩
theorem SR.wipe {K : PySem.W.Frag} {φ : Nat → Addr} {Hf0 H0 Hf H : Hp} {O : List Nat} {ρ : Env} {σ : St} (S : SR K φ Hf0 H0 O ρ σ Hf H) (vs : List Nat) : SR K φ Hf0 H0 O (wipeE ρ vs) (L2.wipe σ vs) Hf H := by
  refine ⟨by rw [wipeE_len, wipe_length]; exact S.len, S.sub, S.gf, S.gh, S.gn, fun i d e n => ?_, fun i d e m => ?_, fun i j d e a h1 h2 m1 m2 hne q1 => ?_⟩
  · obtain ⟨e1, hn⟩ := wipeE_some e
    obtain ⟨v, e2, r⟩ := S.val i d e1 n
    exact ⟨v, by rw [wipe_out hn]; exact e2, r⟩
  · obtain ⟨e1, hn⟩ := wipeE_some e
    obtain ⟨a, xs, us, q1, q2, q3⟩ := S.own i d e1 m
    exact ⟨a, xs, us, q1, by rw [wipe_out hn]; exact q2, q3⟩
  · obtain ⟨e1, hn1⟩ := wipeE_some h1
    obtain ⟨e2, hn2⟩ := wipeE_some h2
    rw [wipe_out hn1] at q1
    rw [wipe_out hn2]
    exact S.ne i j d e a e1 e2 m1 m2 hne q1
theorem wipe_wipe {σ : St} {vs : List Nat} : L2.wipe (L2.wipe σ vs) vs = L2.wipe σ vs := by
  refine List.ext_getElem? fun i => ?_
  by_cases h : i ∈ vs
  · have z : ∀ (τ : St), (L2.wipe τ vs)[i]? = if i < τ.length then some none else none := by
      intro τ
      clear σ
      induction vs with
      | nil => simp at h
      | cons v vs ih =>
        show ((L2.wipe τ vs).set v none)[i]? = _
        by_cases hv : v = i
        · subst hv
          by_cases hl : v < τ.length
          · rw [List.getElem?_set_self (by rw [wipe_length]; exact hl), if_pos hl]
          · rw [List.getElem?_eq_none (by rw [List.length_set, wipe_length]; omega), if_neg hl]
        · rw [List.getElem?_set_ne hv]
          rcases List.mem_cons.mp h with e | e
          · exact absurd e.symm hv
          · exact ih e
    rw [z, z, wipe_length]
  · rw [wipe_out h]
section
variable {X : Cx} {O O2 : List Nat} {tg iter elt : Expr} {scope : Scope} {own : List (Str × Nat)} {pos : Pos}
def uE (X : Cx) (scope : Scope) (e : Expr) : TE := fun σ H Q => ∀ (s : Shared) (H0 : Hp) (C : Addr) (cl : List (Str × Addr)) (fp : List Addr), wE (X.blk s H0 scope (compEnvC scope cl C X.env) fp) e σ H Q
def uT (X : Cx) (scope : Scope) (e : Expr) : TT := fun σ H Q => ∀ (s : Shared) (H0 : Hp) (C : Addr) (cl : List (Str × Addr)) (fp : List Addr), wT (X.blk s H0 scope (compEnvC scope cl C X.env) fp) e σ H Q
def uG (X : Cx) (scope : Scope) (e : Expr) : TG := fun v σ H Q => ∀ (s : Shared) (H0 : Hp) (C : Addr) (cl : List (Str × Addr)) (fp : List Addr), wG (X.blk s H0 scope (compEnvC scope cl C X.env) fp) e v σ H Q
/-- what the block of a comprehension does with one item -/
theorem lc_go {wi : TI} {tt : TT} {Fi : Env → Option (List D)} {g : D → Env → Option Env} {T : Env → Option Bool} {E : Env → Option D} {tgs vs : List Nat}
    (hw : ∀ (σ : St) (H : Hp) (R : It → Hp → Prop), wI X tg iter σ H R → wi σ H R)
    (hi : FIB X O tg iter Fi) (hg : ∀ s H C cl fp, FG (X.blk s H scope (compEnvC scope cl C X.env) fp) O O2 tgs tg g) (htg : ∀ i ∈ tgs, i ∈ vs)
    (ht : ∀ (φ : Nat → Addr) (Hf0 H0 : Hp) (ρ : Env) (σ : St) (Hf H : Hp) (b : Bool) (Q : Bool → Hp → Prop), SR X.K φ Hf0 H0 O2 ρ σ Hf H → T ρ = some b → (∀ Hf' H', Gr Hf H Hf' H' → Q b H') → tt σ H Q)
    (he : ∀ s H C cl fp, FE (X.blk s H scope (compEnvC scope cl C X.env) fp) O2 elt E)
    {φ : Nat → Addr} {Hf0 H0 : Hp} {ρ : Env} {σ : St} {Hf H : Hp} {d : D} {Q : VK} (S : SR X.K φ Hf0 H0 O ρ σ Hf H) (hF : eComp vs Fi g T E ρ = some d)
    (k : ∀ a xs us Hf' H', d = .lst xs → Gr Hf H Hf' H' → H a = none → Hf' a = none → H' a = some (.lst us) → RpAll X.K φ Hf' xs us → Q (.ref a) H') : tLc wi (uG X scope tg) tt (uE X scope elt) vs σ H Q := by
  unfold eComp at hF
  split at hF
  · rename_i ds hds
    split at hF
    · rename_i hlen
      split at hF
      · rename_i ys hys
        cases hF
        refine hw σ H _ (hi φ Hf0 H0 ρ σ Hf H ds _ S hds fun J Hf1 H1 g1 itb => ?_)
        intro Dn hDn
        refine ⟨fun i m H2 => m = ds.length - i ∧ i ≤ ds.length ∧ ∃ Hf2 acc us rest, Gr Hf1 H1 Hf2 H2 ∧ Hf2 Dn = none ∧ H2 Dn = some (.lst us) ∧ RpAll X.K φ Hf2 acc us ∧ acc.length ≤ i ∧ compL g T E (wipeE ρ vs) (ds.drop i) = some rest ∧ acc ++ rest = ys,
          ⟨ds.length, by simp, Nat.zero_le _, Hf1, [], [], ys, .own g1.s hDn, g1.s.free hDn, upd_same, .nil, Nat.le_refl _, by simpa using hys, rfl⟩, ?_⟩
        rintro i m H2 ⟨rfl, hil, Hf2, acc, us, rest, g2, hf2, hh2, r2, hal, hrest, rfl⟩
        by_cases hlt : i < ds.length
        · right
          have hget : ds[i]? = some ds[i] := List.getElem?_eq_getElem hlt
          obtain ⟨hgo, hyld⟩ := (itb i Hf2 H2 g2).2 _ hget
          refine ⟨hgo, fun H' => ∃ Hf3 acc' us' rest', Gr Hf1 H1 Hf3 H' ∧ Hf3 Dn = none ∧ H' Dn = some (.lst us') ∧ RpAll X.K φ Hf3 acc' us' ∧ acc'.length ≤ i + 1 ∧ compL g T E (wipeE ρ vs) (ds.drop (i + 1)) = some rest' ∧ acc' ++ rest' = acc ++ rest,
            fun H' ⟨Hf3, acc', us', rest', a1, a2, a3, a4, a5, a6, a7⟩ => ⟨ds.length - (i + 1), by omega, rfl, hlt, Hf3, acc', us', rest', a1, a2, a3, a4, a5, a6, a7⟩, fun x H3 hy => ?_⟩
          obtain ⟨Hf3, g3, r3⟩ := hyld x H3 hy
          have g13 := g2.trans g3
          have S3 := ((S.gr g1).gr g13).wipe vs
          rw [List.drop_eq_getElem_cons hlt] at hrest
          unfold compL at hrest
          split at hrest
          · cases hrest
          · rename_i ρ2 hρ2
            intro s0 h0 C0 cl0 fp0
            refine hg s0 h0 C0 cl0 fp0 φ Hf0 H0 _ _ Hf3 H3 _ x ρ2 _ S3 r3 hρ2 fun σ2 S4 w4 => ⟨(w4 vs htg).trans wipe_wipe, ?_⟩
            split at hrest
            · cases hrest
            · rename_i hT
              refine ht φ Hf0 H0 ρ2 σ2 Hf3 H3 false _ S4 hT fun Hf4 H4 g4 => ?_
              refine iteF ⟨Hf4, acc, us, rest, g13.trans g4, ?_, ?_, (r2.mono g3.f).mono g4.f, by omega, hrest, rfl⟩
              · exact (g3.trans g4).n _ _ hh2 hf2
              · exact (g3.trans g4).h _ _ hh2
            · rename_i hT
              split at hrest
              · cases hrest
              · rename_i y hy2
                split at hrest
                · cases hrest
                · rename_i ys2 hys2
                  cases hrest
                  refine ht φ Hf0 H0 ρ2 σ2 Hf3 H3 true _ S4 hT fun Hf4 H4 g4 => iteT ?_
                  intro s1 h1 C1 cl1 fp1
                  refine he s1 h1 C1 cl1 fp1 φ Hf0 H0 ρ2 σ2 Hf4 H4 y _ (S4.gr g4) hy2 fun v Hf5 H5 g5 r5 => ?_
                  have g35 := g3.trans (g4.trans g5)
                  have hh5 := g35.h _ _ hh2
                  have hf5 := g35.n _ _ hh2 hf2
                  refine ⟨us, hh5, by rw [← r2.length]; omega, Hf5, acc ++ [y], us ++ [v], ys2, ?_, hf5, upd_same, ((r2.mono g35.f).append (.one r5)), by rw [List.length_append, List.length_singleton]; omega, hys2, by simp⟩
                  have gg := g2.trans g35
                  refine ⟨gg.f, fun b o e => ?_, fun b o e => ?_, gg.n⟩
                  · rw [upd_ne (ne_of_none e hDn)]; exact gg.h _ _ e
                  · rw [upd_ne (ne_of_none e hf5)]; exact gg.s _ _ e
        · left
          have hie : i = ds.length := by omega
          refine ⟨(itb i Hf2 H2 g2).1 (by omega), ?_⟩
          subst hie
          rw [List.drop_length] at hrest
          cases hrest
          rw [List.append_nil] at *
          exact k Dn _ us Hf2 H2 rfl (g1.trans g2) (g1.h.free hDn) hf2 hh2 r2
      · cases hF
    · cases hF
  · cases hF
theorem fn_lc {Fi : Env → Option (List D)} {g : D → Env → Option Env} {E : Env → Option D} {tgs : List Nat} (hc : X.calm = true) (hN : X.N.Nodup) (ok : BlkOk X.N X.env.scope scope own)
    (hi : FIB X O tg iter Fi) (hg : ∀ s H C cl fp, FG (X.blk s H scope (compEnvC scope cl C X.env) fp) O O2 tgs tg g) (he : ∀ s H C cl fp, FE (X.blk s H scope (compEnvC scope cl C X.env) fp) O2 elt E)
    (htg : (tgs.all fun i => (own.map (·.2)).contains i) = true) (hs : ∀ x, foldedSetIterable iter X.env x = pure x := by intro _; rfl) : FN X O (.ListComp elt [⟨tg, iter, [], 0⟩] scope pos) (eComp (own.map (·.2)) Fi g tYesE E) := by
  intro φ Hf0 H0 ρ σ Hf H d Q S hF k
  refine toE (pe_lc (wi := wI X tg iter) (g := uG X scope tg) (tt := tYes) (te := uE X scope elt) hc hN piW ok (fun s H C cl fp => ⟨fun pins s' σ H' v u Q I r h => h s H C cl fp pins s' u I r⟩) (fun _ _ _ _ _ => pts_nil) (fun s H C cl fp => ⟨fun pins s' σ H' Q I h => h s H C cl fp pins s' I⟩) hs) ?_
  exact lc_go (fun _ _ _ h => h) hi hg (fun i hi => by simpa using (List.all_eq_true.mp htg) i hi) (fun φ Hf0 H0 ρ σ Hf H b Q S h k => by cases h; exact k Hf H (.refl S.sub)) he S hF k
theorem fn_lcIf {c : Expr} {T : Env → Option Bool} {Fi : Env → Option (List D)} {g : D → Env → Option Env} {E : Env → Option D} {tgs : List Nat} (hc : X.calm = true) (hN : X.N.Nodup) (ok : BlkOk X.N X.env.scope scope own)
    (hi : FIB X O tg iter Fi) (hg : ∀ s H C cl fp, FG (X.blk s H scope (compEnvC scope cl C X.env) fp) O O2 tgs tg g) (ht : ∀ s H C cl fp, FT (X.blk s H scope (compEnvC scope cl C X.env) fp) O2 c T) (he : ∀ s H C cl fp, FE (X.blk s H scope (compEnvC scope cl C X.env) fp) O2 elt E)
    (htg : (tgs.all fun i => (own.map (·.2)).contains i) = true) (hs : ∀ x, foldedSetIterable iter X.env x = pure x := by intro _; rfl) : FN X O (.ListComp elt [⟨tg, iter, [c], 0⟩] scope pos) (eComp (own.map (·.2)) Fi g T E) := by
  intro φ Hf0 H0 ρ σ Hf H d Q S hF k
  refine toE (pe_lc (wi := wI X tg iter) (g := uG X scope tg) (tt := uT X scope c) (te := uE X scope elt) hc hN piW ok (fun s H C cl fp => ⟨fun pins s' σ H' v u Q I r h => h s H C cl fp pins s' u I r⟩) (fun s H C cl fp => pts_one ⟨fun pins s' σ H' Q I h => h s H C cl fp pins s' I⟩) (fun s H C cl fp => ⟨fun pins s' σ H' Q I h => h s H C cl fp pins s' I⟩) hs) ?_
  exact lc_go (fun _ _ _ h => h) hi hg (fun i hi => by simpa using (List.all_eq_true.mp htg) i hi) (fun φ Hf0 H0 ρ σ Hf H b Q S h k s0 h0 C0 cl0 fp0 => ht s0 h0 C0 cl0 fp0 φ Hf0 H0 ρ σ Hf H b Q S h k) he S hF k
end
end FL
namespace FL
open PySem L2

/-! ### statements -/
inductive Out where
  | nx (ρ : Env) | rt (d : D) | bk (ρ : Env) | ct (ρ : Env)
/-- what is wanted of what a def returns: fr, a new list -/
def RtK (K : PySem.W.Frag) (φ : Nat → Addr) (Hf0 H0 : Hp) (fr : Bool) (d : D) (rt : VK) : Prop := match fr with
  | false => ∀ v Hf' H', Gr Hf0 H0 Hf' H' → Rp K φ Hf' d v → rt v H'
  | true => ∀ a xs vs Hf' H', d = .lst xs → Gr Hf0 H0 Hf' H' → H0 a = none → Hf' a = none → H' a = some (.lst vs) → RpAll K φ Hf' xs vs → rt (.ref a) H'
def Post (K : PySem.W.Frag) (φ : Nat → Addr) (Hf0 H0 : Hp) (fr : Bool) (L O : List Nat) (Hf : Hp) (Dn : Ends) : Out → Prop
  | .nx ρ => ∀ σ' Hf' H', Same Hf Hf' → SR K φ Hf0 H0 O ρ σ' Hf' H' → Dn.nx σ' H'
  | .rt d => RtK K φ Hf0 H0 fr d Dn.rt
  | .bk ρ => ∀ σ' Hf' H', Same Hf Hf' → SR K φ Hf0 H0 L ρ σ' Hf' H' → Dn.bk σ' H'
  | .ct ρ => ∀ σ' Hf' H', Same Hf Hf' → SR K φ Hf0 H0 L ρ σ' Hf' H' → Dn.ct σ' H'
theorem Post.mono {K : PySem.W.Frag} {φ : Nat → Addr} {Hf0 H0 : Hp} {fr : Bool} {L O : List Nat} {Hf Hf1 : Hp} {Dn : Ends} (s : Same Hf Hf1) : ∀ {out : Out}, Post K φ Hf0 H0 fr L O Hf Dn out → Post K φ Hf0 H0 fr L O Hf1 Dn out
  | .nx _, h => fun σ' Hf' H' s' => h σ' Hf' H' (s.trans s')
  | .rt _, h => h
  | .bk _, h => fun σ' Hf' H' s' => h σ' Hf' H' (s.trans s')
  | .ct _, h => fun σ' Hf' H' s' => h σ' Hf' H' (s.trans s')
def FS (X : Cx) (fr : Bool) (L O O' : List Nat) (st : Stmt) (G : Env → Option Out) : Prop :=
  ∀ (φ : Nat → Addr) (Hf0 H0 : Hp) (ρ : Env) (σ : St) (Hf H : Hp) (out : Out) (Dn : Ends), SR X.K φ Hf0 H0 O ρ σ Hf H → G ρ = some out → Post X.K φ Hf0 H0 fr L O' Hf Dn out → wS X st Dn σ H
def FSs (X : Cx) (fr : Bool) (L O O' : List Nat) (sts : List Stmt) (G : Env → Option Out) : Prop :=
  ∀ (φ : Nat → Addr) (Hf0 H0 : Hp) (ρ : Env) (σ : St) (Hf H : Hp) (out : Out) (Dn : Ends), SR X.K φ Hf0 H0 O ρ σ Hf H → G ρ = some out → Post X.K φ Hf0 H0 fr L O' Hf Dn out → wSs X sts Dn σ H
def sNil : Env → Option Out := fun ρ => some (.nx ρ)
def sSeq (F G : Env → Option Out) : Env → Option Out := fun ρ => match F ρ with | some (.nx ρ') => G ρ' | o => o
def sX (F : Env → Option D) : Env → Option Out := fun ρ => match F ρ with | some _ => some (.nx ρ) | none => none
def sRet (F : Env → Option D) : Env → Option Out := fun ρ => match F ρ with | some d => some (.rt d) | none => none
def sIf (C : Env → Option Bool) (F G : Env → Option Out) : Env → Option Out := fun ρ => match C ρ with | some true => F ρ | some false => G ρ | none => none
def sSet (i : Nat) (F : Env → Option D) : Env → Option Out := fun ρ => match F ρ with | some d => some (.nx (ρ.set i (some d))) | none => none
def sAsg (g : D → Env → Option Env) (F : Env → Option D) : Env → Option Out := fun ρ => match F ρ with | some d => (match g d ρ with | some ρ' => some (.nx ρ') | none => none) | none => none
/-- a method of the list of our own in slot i that gives None: f its items, the arguments -/
def sMut (i : Nat) (f : List D → List D → Option (List D)) (Fs : Env → Option (List D)) : Env → Option Out := fun ρ =>
  match Fs ρ with | some ds => (match eVar i ρ with | some (.lst xs) => (match f xs ds with | some ys => some (.nx (ρ.set i (some (.lst ys)))) | none => none) | _ => none) | none => none
def loopF (g : D → Env → Option Env) (G : Env → Option Out) : List D → Env → Option Out
  | [], ρ => some (.nx ρ)
  | d :: ds, ρ => match g d ρ with
    | none => none
    | some ρ1 => match G ρ1 with
      | some (.nx ρ2) => loopF g G ds ρ2
      | some (.ct ρ2) => loopF g G ds ρ2
      | some (.bk ρ2) => some (.nx ρ2)
      | some (.rt d) => some (.rt d)
      | none => none
def sFor (Fi : Env → Option (List D)) (g : D → Env → Option Env) (G : Env → Option Out) : Env → Option Out := fun ρ => match Fi ρ with | some ds => loopF g G ds ρ | none => none
def sWhile (n : Nat) (C : Env → Option Bool) (G : Env → Option Out) : Env → Option Out := match n with
  | 0 => fun _ => none
  | n + 1 => fun ρ => match C ρ with
    | some true => (match G ρ with
      | some (.nx ρ2) => sWhile n C G ρ2
      | some (.ct ρ2) => sWhile n C G ρ2
      | some (.bk ρ2) => some (.nx ρ2)
      | some (.rt d) => some (.rt d)
      | none => none)
    | some false => some (.nx ρ)
    | none => none
section
variable {X : Cx} {fr : Bool} {L O O' O1 O2 : List Nat} {st : Stmt} {sts : List Stmt} {e tg : Expr} {es : List Expr} {pos : Pos} {F : Env → Option D} {Fs : Env → Option (List D)} {G G2 : Env → Option Out} {g : D → Env → Option Env} {tgs : List Nat}
theorem fss_nil : FSs X fr L O O [] sNil := fun φ Hf0 H0 ρ σ Hf H out Dn S h P => by
  cases h
  exact toSs pss_nil (P σ Hf H (Same.refl _) S)
theorem fss_cons (h : FS X fr L O O1 st G) (t : FSs X fr L O1 O' sts G2) : FSs X fr L O O' (st :: sts) (sSeq G G2) := fun φ Hf0 H0 ρ σ Hf H out Dn S hF P => by
  refine toSs (pss_cons psW pssW) ?_
  unfold sSeq at hF
  split at hF
  · rename_i ρ' h1
    exact h φ Hf0 H0 ρ σ Hf H _ _ S h1 fun σ1 Hf1 H1 s1 S1 => t φ Hf0 H0 ρ' σ1 Hf1 H1 out Dn S1 hF (P.mono s1)
  · rename_i hne
    refine h φ Hf0 H0 ρ σ Hf H out _ S hF ?_
    cases out with
    | nx ρ' => exact absurd hF (hne ρ')
    | _ => exact P
/-- forget that lists are our own, ahead of a block -/
theorem fss_frz (h : FSs X fr L O1 O' sts G) (hL : O1.all (O.contains ·) = true) : FSs X fr L O O' sts G := fun φ Hf0 H0 ρ σ Hf H out Dn S hF P => by
  obtain ⟨Hf1, s1, S1⟩ := S.weak O1 hL
  exact h φ Hf0 H0 ρ σ Hf1 H out Dn S1 hF (P.mono s1)
theorem fs_frz (h : FS X fr L O1 O' st G) (hL : O1.all (O.contains ·) = true) : FS X fr L O O' st G := fun φ Hf0 H0 ρ σ Hf H out Dn S hF P => by
  obtain ⟨Hf1, s1, S1⟩ := S.weak O1 hL
  exact h φ Hf0 H0 ρ σ Hf1 H out Dn S1 hF (P.mono s1)
/-- .. behind a block -/
theorem fss_to (h : FSs X fr L O O1 sts G) (hL : O'.all (O1.contains ·) = true) : FSs X fr L O O' sts G := fun φ Hf0 H0 ρ σ Hf H out Dn S hF P => by
  refine h φ Hf0 H0 ρ σ Hf H out Dn S hF ?_
  cases out with
  | nx ρ' => exact fun σ' Hf' H' s' S' => let ⟨Hf2, s2, S2⟩ := S'.weak O' hL; P σ' Hf2 H' (s'.trans s2) S2
  | _ => exact P
theorem fs_to (h : FS X fr L O O1 st G) (hL : O'.all (O1.contains ·) = true) : FS X fr L O O' st G := fun φ Hf0 H0 ρ σ Hf H out Dn S hF P => by
  refine h φ Hf0 H0 ρ σ Hf H out Dn S hF ?_
  cases out with
  | nx ρ' => exact fun σ' Hf' H' s' S' => let ⟨Hf2, s2, S2⟩ := S'.weak O' hL; P σ' Hf2 H' (s'.trans s2) S2
  | _ => exact P
theorem fs_pass : FS X fr L O O (.Pass pos) sNil := fun φ Hf0 H0 ρ σ Hf H out Dn S h P => by cases h; exact toS ps_pass (P σ Hf H (Same.refl _) S)
theorem fs_doc {x : Str} {j} {p2 : Pos} : FS X fr L O O (.Expr (.Constant (.str x) j pos) p2) sNil := fun φ Hf0 H0 ρ σ Hf H out Dn S h P => by cases h; exact toS ps_doc (P σ Hf H (Same.refl _) S)
theorem fs_expr (h : FB X O e F) (hs : swapsWith e none pos.line X.env = pure false := by rfl) : FS X fr L O O (.Expr e pos) (sX F) := fun φ Hf0 H0 ρ σ Hf H out Dn S hF P => by
  unfold sX at hF
  split at hF
  · rename_i d hd
    cases hF
    exact toS (ps_expr peW hs) (h φ Hf0 H0 ρ σ Hf H d _ S hd fun v Hf1 H1 g1 r1 => P σ Hf1 H1 g1.f (S.gr g1))
  · cases hF
theorem fs_ret (h : FE X O e F) : FS X false L O O' (.Return (some e) pos) (sRet F) := fun φ Hf0 H0 ρ σ Hf H out Dn S hF P => by
  unfold sRet at hF
  split at hF
  · rename_i d hd
    cases hF
    exact toS (ps_ret peW) (h φ Hf0 H0 ρ σ Hf H d _ S hd fun v Hf1 H1 g1 r1 => P v Hf1 H1 (S.from0.trans g1) r1)
  · cases hF
theorem fs_retNew (h : FN X O e F) : FS X true L O O' (.Return (some e) pos) (sRet F) := fun φ Hf0 H0 ρ σ Hf H out Dn S hF P => by
  unfold sRet at hF
  split at hF
  · rename_i d hd
    cases hF
    refine toS (ps_ret peW) (h φ Hf0 H0 ρ σ Hf H d _ S hd fun a xs vs Hf1 H1 e1 g1 q1 q2 q3 r1 => ?_)
    exact P a xs vs Hf1 H1 e1 (S.from0.trans g1) (S.gh.free q1) q2 q3 r1
  · cases hF
theorem fs_retOwn {i : Nat} {x : Str} {p2 : Pos} (hN : X.N[i]? = some x) (hv : Vis X.env.scope x) (hO : O.contains i = true) (hd : (x == ("__debug__" : Str)) = false := by decide +kernel) (hcd : (x == ("__classdict__" : Str)) = false := by decide +kernel) :
    FS X true L O O' (.Return (some (.Name x p2)) pos) (sRet (eVar i)) := fun φ Hf0 H0 ρ σ Hf H out Dn S hF P => by
  unfold sRet at hF
  split at hF
  · rename_i d hd'
    cases hF
    have hq : ρ[i]? = some (some d) := by
      unfold eVar at hd'
      split at hd'
      · rename_i d' h; cases hd'; exact h
      · cases hd'
    obtain ⟨a, xs, vs, e1, e2, e3, e4, e5, r⟩ := S.own i d hq (by simpa using hO)
    exact toS (ps_ret (pe_var hN hv hd hcd)) ⟨_, e2, P a xs vs Hf H e1 S.from0 e5 e4 e3 r⟩
  · cases hF
theorem fs_retN : FS X false L O O' (.Return none pos) (sRet (eC .non)) := fun φ Hf0 H0 ρ σ Hf H out Dn S hF P => by
  cases hF
  exact toS ps_retN (P .non Hf H S.from0 .non)
theorem fs_if {c : Expr} {T : Env → Option Bool} {a b : List Stmt} (h : FT X O c T) (h1 : FSs X fr L O O' a G) (h2 : FSs X fr L O O' b G2) : FS X fr L O O' (.If c a b pos) (sIf T G G2) := fun φ Hf0 H0 ρ σ Hf H out Dn S hF P => by
  refine toS (ps_if ptW pssW pssW) ?_
  unfold sIf at hF
  split at hF
  · rename_i hb
    exact h φ Hf0 H0 ρ σ Hf H true _ S hb fun Hf1 H1 g1 => iteT (h1 φ Hf0 H0 ρ σ Hf1 H1 out Dn (S.gr g1) hF (P.mono g1.f))
  · rename_i hb
    exact h φ Hf0 H0 ρ σ Hf H false _ S hb fun Hf1 H1 g1 => iteF (h2 φ Hf0 H0 ρ σ Hf1 H1 out Dn (S.gr g1) hF (P.mono g1.f))
  · cases hF
theorem fs_break (hL : L.all (O.contains ·) = true) : FS X fr L O O' (.Break pos) (fun ρ => some (.bk ρ)) := fun φ Hf0 H0 ρ σ Hf H out Dn S h P => by
  cases h
  obtain ⟨Hf1, s1, S1⟩ := S.weak L hL
  exact toS ps_break (P σ Hf1 H s1 S1)
theorem fs_cont (hL : L.all (O.contains ·) = true) : FS X fr L O O' (.Continue pos) (fun ρ => some (.ct ρ)) := fun φ Hf0 H0 ρ σ Hf H out Dn S h P => by
  cases h
  obtain ⟨Hf1, s1, S1⟩ := S.weak L hL
  exact toS ps_continue (P σ Hf1 H s1 S1)
theorem fs_set {i : Nat} {x : Str} {p2 : Pos} (hN : X.N.Nodup) (hi : X.N[i]? = some x) (hx : Loc X.env.scope x) (h : FE X O e F) (hs : swapsWith e (some (.Name x p2)) pos.line X.env = pure false := by rfl) (hf : X.fn x = true ∨ X.env.scope.names.lookup x = some .local := by first | exact .inl rfl | exact .inr rfl | assumption) :
    FS X fr L O (O.filter (· != i)) (.Assign [.Name x p2] e pos) (sSet i F) := fun φ Hf0 H0 ρ σ Hf H out Dn S hF P => by
  unfold sSet at hF
  split at hF
  · rename_i d hd
    cases hF
    exact toS (ps_set hN hi hx peW hs hf) (h φ Hf0 H0 ρ σ Hf H d _ S hd fun v Hf1 H1 g1 r1 => P _ Hf1 H1 g1.f ((S.gr g1).set i r1))
  · cases hF
/-- the list that is given is nobody's -/
theorem SR.apart {K : PySem.W.Frag} {φ : Nat → Addr} {Hf0 H0 Hf H : Hp} {ρ : Env} {σ : St} {a : Addr} (S : SR K φ Hf0 H0 O ρ σ Hf H) (h : H a = none) : ∀ j d, ρ[j]? = some (some d) → j ∈ O → σ[j]? ≠ some (some (.ref a)) := fun j d hj m e => by
  obtain ⟨b, xs, vs, e1, e2, e3, e4, e5, r⟩ := S.own j d hj m
  rw [e] at e2
  cases e2
  rw [h] at e3
  cases e3
theorem fs_setNew {i : Nat} {x : Str} {p2 : Pos} (hN : X.N.Nodup) (hi : X.N[i]? = some x) (hx : Loc X.env.scope x) (h : FN X O e F) (hs : swapsWith e (some (.Name x p2)) pos.line X.env = pure false := by rfl) (hf : X.fn x = true ∨ X.env.scope.names.lookup x = some .local := by first | exact .inl rfl | exact .inr rfl | assumption) :
    FS X fr L O (i :: O.filter (· != i)) (.Assign [.Name x p2] e pos) (sSet i F) := fun φ Hf0 H0 ρ σ Hf H out Dn S hF P => by
  unfold sSet at hF
  split at hF
  · rename_i d hd
    cases hF
    refine toS (ps_set hN hi hx peW hs hf) (h φ Hf0 H0 ρ σ Hf H d _ S hd fun a xs vs Hf1 H1 e1 g1 q1 q2 q3 r1 => ?_)
    subst e1
    exact P _ Hf1 H1 g1.f ((S.gr g1).setOwn i q3 q2 (S.gh.free q1) (S.apart q1) r1)
  · cases hF
theorem fs_asg (h : FE X O e F) (hg : FG X O O' tgs tg g) (hs : swapsWithSole [tg] e pos.line X.env = pure false := by rfl) (hw : swappedStores [tg] e X.env = pure none := by rfl)
    (h1 : (assignEach [tg] X.env).map (·.2) = [assign tg X.env] := by rfl) : FS X fr L O O' (.Assign [tg] e pos) (sAsg g F) := fun φ Hf0 H0 ρ σ Hf H out Dn S hF P => by
  unfold sAsg at hF
  split at hF
  · rename_i d hd
    split at hF
    · rename_i ρ' hρ
      cases hF
      refine toS (ps_asg peW pgW hs hw h1) (h φ Hf0 H0 ρ σ Hf H d _ S hd fun v Hf1 H1 g1 r1 => ?_)
      exact hg φ Hf0 H0 ρ σ Hf1 H1 d v ρ' _ (S.gr g1) r1 hρ fun σ' S' _ => P σ' Hf1 H1 g1.f S'
    · cases hF
  · cases hF
/-! name = [.. for ..] -/
theorem fs_setLc {i : Nat} {y : Str} {py spos : Pos} {iter elt : Expr} {scope : Scope} {own : List (Str × Nat)} {Fi : Env → Option (List D)} {E : Env → Option D} (hc : X.calm = true) (hN : X.N.Nodup) (hy : X.N[i]? = some y) (hyl : X.env.scope.names.lookup y = some .local)
    (hsw : swapsWith (.ListComp elt [⟨tg, iter, [], 0⟩] scope pos) (some (.Name y py)) spos.line X.env = pure true) (ok : BlkOk X.N X.env.scope scope own)
    (hi : FIB X O tg iter Fi) (hg : ∀ s H C cl fp, FG (X.blk s H scope (compEnvC scope cl C X.env) fp) O O2 tgs tg g) (he : ∀ s H C cl fp, FE (X.blk s H scope (compEnvC scope cl C X.env) fp) O2 elt E)
    (htg : (tgs.all fun i => (own.map (·.2)).contains i) = true) (hs : ∀ x, foldedSetIterable iter X.env x = pure x := by intro _; rfl) : FS X fr L O (i :: O.filter (· != i)) (.Assign [.Name y py] (.ListComp elt [⟨tg, iter, [], 0⟩] scope pos) spos) (sSet i (eComp (own.map (·.2)) Fi g tYesE E)) := fun φ Hf0 H0 ρ σ Hf H out Dn S hF P => by
  unfold sSet at hF
  split at hF
  · rename_i d hd
    cases hF
    refine toS (ps_setLc (wi := wI X tg iter) (g := uG X scope tg) (tt := tYes) (te := uE X scope elt) hc hN hy hyl hsw piW ok (fun s H C cl fp => ⟨fun pins s' σ H' v u Q I r h => h s H C cl fp pins s' u I r⟩) (fun _ _ _ _ _ => pts_nil) (fun s H C cl fp => ⟨fun pins s' σ H' Q I h => h s H C cl fp pins s' I⟩) hs) ?_
    refine lc_go (fun _ _ _ h => h) hi hg (fun i hi => by simpa using (List.all_eq_true.mp htg) i hi) (fun φ Hf0 H0 ρ σ Hf H b Q S h k => by cases h; exact k Hf H (.refl S.sub)) he S hd fun a xs vs Hf1 H1 e1 g1 q1 q2 q3 r1 => ?_
    subst e1
    exact P _ Hf1 H1 g1.f ((S.gr g1).setOwn i q3 q2 (S.gh.free q1) (S.apart q1) r1)
  · cases hF
theorem fs_setLcIf {i : Nat} {y : Str} {py spos : Pos} {iter elt c : Expr} {scope : Scope} {own : List (Str × Nat)} {Fi : Env → Option (List D)} {T : Env → Option Bool} {E : Env → Option D} (hc : X.calm = true) (hN : X.N.Nodup) (hy : X.N[i]? = some y) (hyl : X.env.scope.names.lookup y = some .local)
    (hsw : swapsWith (.ListComp elt [⟨tg, iter, [c], 0⟩] scope pos) (some (.Name y py)) spos.line X.env = pure true) (ok : BlkOk X.N X.env.scope scope own)
    (hi : FIB X O tg iter Fi) (hg : ∀ s H C cl fp, FG (X.blk s H scope (compEnvC scope cl C X.env) fp) O O2 tgs tg g) (ht : ∀ s H C cl fp, FT (X.blk s H scope (compEnvC scope cl C X.env) fp) O2 c T) (he : ∀ s H C cl fp, FE (X.blk s H scope (compEnvC scope cl C X.env) fp) O2 elt E)
    (htg : (tgs.all fun i => (own.map (·.2)).contains i) = true) (hs : ∀ x, foldedSetIterable iter X.env x = pure x := by intro _; rfl) : FS X fr L O (i :: O.filter (· != i)) (.Assign [.Name y py] (.ListComp elt [⟨tg, iter, [c], 0⟩] scope pos) spos) (sSet i (eComp (own.map (·.2)) Fi g T E)) := fun φ Hf0 H0 ρ σ Hf H out Dn S hF P => by
  unfold sSet at hF
  split at hF
  · rename_i d hd
    cases hF
    refine toS (ps_setLc (wi := wI X tg iter) (g := uG X scope tg) (tt := uT X scope c) (te := uE X scope elt) hc hN hy hyl hsw piW ok (fun s H C cl fp => ⟨fun pins s' σ H' v u Q I r h => h s H C cl fp pins s' u I r⟩) (fun s H C cl fp => pts_one ⟨fun pins s' σ H' Q I h => h s H C cl fp pins s' I⟩) (fun s H C cl fp => ⟨fun pins s' σ H' Q I h => h s H C cl fp pins s' I⟩) hs) ?_
    refine lc_go (fun _ _ _ h => h) hi hg (fun i hi => by simpa using (List.all_eq_true.mp htg) i hi) (fun φ Hf0 H0 ρ σ Hf H b Q S h k s0 h0 C0 cl0 fp0 => ht s0 h0 C0 cl0 fp0 φ Hf0 H0 ρ σ Hf H b Q S h k) he S hd fun a xs vs Hf1 H1 e1 g1 q1 q2 q3 r1 => ?_
    subst e1
    exact P _ Hf1 H1 g1.f ((S.gr g1).setOwn i q3 q2 (S.gh.free q1) (S.apart q1) r1)
  · cases hF
/-- a list of our own is changed -/
theorem SR.mut {K : PySem.W.Frag} {φ : Nat → Addr} {Hf0 H0 Hf H : Hp} {ρ : Env} {σ : St} {i : Nat} {xs ys : List D} {ws : List V} (S : SR K φ Hf0 H0 O ρ σ Hf H) (hi : ρ[i]? = some (some (.lst xs))) (hO : i ∈ O) {a : Addr} (ha : σ[i]? = some (some (.ref a))) (r : RpAll K φ Hf ys ws) :
    SR K φ Hf0 H0 O (ρ.set i (some (.lst ys))) σ Hf (upd H a (.lst ws)) := by
  obtain ⟨b, xs', vs, e1, e2, e3, e4, e5, r0⟩ := S.own i _ hi hO
  rw [ha] at e2; cases e2
  have hil : i < ρ.length := (List.getElem?_eq_some_iff.mp hi).1
  have back : ∀ {j d}, (ρ.set i (some (.lst ys)))[j]? = some (some d) → j ≠ i → ρ[j]? = some (some d) := fun {j d} h hn => by rw [List.getElem?_set_ne (Ne.symm hn)] at h; exact h
  have some' : ∀ {j d}, (ρ.set i (some (.lst ys)))[j]? = some (some d) → ∃ d', ρ[j]? = some (some d') := fun {j d} h => by
    by_cases hj : j = i
    · subst hj; exact ⟨_, hi⟩
    · exact ⟨d, back h hj⟩
  refine ⟨by rw [List.length_set]; exact S.len, fun c o e => ?_, S.gf, fun c o e => ?_, S.gn, fun j d hj hn => ?_, fun j d hj hm => ?_, fun j k d e c hj hk mj mk hne q => ?_⟩
  · rw [upd_ne (ne_of_none e e4)]; exact S.sub _ _ e
  · rw [upd_ne (ne_of_none e e5)]; exact S.gh _ _ e
  · have hji : j ≠ i := fun z => hn (z ▸ hO)
    exact S.val j d (back hj hji) hn
  · by_cases hji : j = i
    · subst hji
      rw [List.getElem?_set_self hil] at hj; cases hj
      exact ⟨a, ys, ws, rfl, ha, upd_same, e4, e5, r⟩
    · obtain ⟨c, zs, us, q1, q2, q3, q4, q5, q6⟩ := S.own j d (back hj hji) hm
      have hca : c ≠ a := by
        rintro rfl
        exact S.ne i j _ d c hi (back hj hji) hO hm (Ne.symm hji) ha q2
      exact ⟨c, zs, us, q1, q2, by rw [upd_ne hca]; exact q3, q4, q5, q6⟩
  · obtain ⟨d1, z1⟩ := some' hj
    obtain ⟨d2, z2⟩ := some' hk
    exact S.ne j k d1 d2 c z1 z2 mj mk hne q
/-- xs.m(..) as a statement -/
theorem fs_mut {i : Nat} {x : Str} {name : Str} {bid : String} {xpos apos cpos : Pos} {r : V → List V → Hp → VK → Prop} {f : List D → List D → Option (List D)} (hN : X.N[i]? = some x) (hv : Vis X.env.scope x) (hO : O.contains i = true)
    (slot : Slot "list" name bid) (hty : typeOf (.builtin bid) = pure (.type "method_descriptor")) (hm : MtR X bid r)
    (hr : ∀ (φ : Nat → Addr) (Hf H : Hp) (a : Addr) (xs ds ys : List D) (vs us : List V) (Q : VK), Same Hf H → H a = some (.lst vs) → RpAll X.K φ Hf xs vs → RpAll X.K φ Hf ds us → f xs ds = some ys → (∀ z ws, RpAll X.K φ Hf ys ws → Q z (upd H a (.lst ws))) → r (.ref a) us H Q)
    (ha : FA X O (e :: es) Fs) (hd : (x == ("__debug__" : Str)) = false := by decide +kernel) (hcd : (x == ("__classdict__" : Str)) = false := by decide +kernel)
    (hbase : attributeBase (.Name x xpos) name X.env (eval (.Name x xpos) X.env) = eval (.Name x xpos) X.env := by rfl)
    (hfew : ((backTo cpos (starEach (e :: es) X.env)).all (fun x => !x.1) && (backToKw cpos (keywordEach [] X.env)).all (fun x => x.1.isSome)
      && decide ((e :: es).length + ([] : List Keyword).length + (if ([] : List Keyword).isEmpty then 0 else 1) < 30)) = true := by rfl)
    (hsx : swapsWith (.Call (.Attribute (.Name x xpos) name apos) (e :: es) [] cpos) none pos.line X.env = pure false := by rfl) (hline : (apos.endLine == cpos.line) = true := by rfl) (hs : starEach (e :: es) X.env = (false, eval e X.env) :: starEach es X.env := by rfl) (hplain : (backTo cpos (starEach es X.env)).any (·.1) = false := by rfl) :
    FS X fr L O O (.Expr (.Call (.Attribute (.Name x xpos) name apos) (e :: es) [] cpos) pos) (sMut i f Fs) := fun φ Hf0 H0 ρ σ Hf H out Dn S hF P => by
  unfold sMut at hF
  split at hF
  · rename_i ds hds
    split at hF
    · rename_i xs hxs
      split at hF
      · rename_i ys hys
        cases hF
        have hq : ρ[i]? = some (some (.lst xs)) := by
          unfold eVar at hxs
          split at hxs
          · rename_i d' h; cases hxs; exact h
          · cases hxs
        have hO' : i ∈ O := by simpa using hO
        obtain ⟨a, xs', vs, e1, e2, e3, e4, e5, r0⟩ := S.own i _ hq hO'
        cases e1
        refine toS (ps_expr (pe_bm PySem.F.plainAttrs_list slot hty hm (pe_var hN hv hd hcd) paW hbase hfew hline hs hplain) hsx) ?_
        refine ⟨_, e2, .inl ⟨rfl, vs, .inl (.inl e3)⟩, ?_⟩
        refine ha φ Hf0 H0 ρ σ Hf H ds _ S hds fun us Hf1 H1 g1 r1 => ?_
        refine hr φ Hf1 H1 a xs ds ys vs us _ g1.s (g1.h _ _ e3) (r0.mono g1.f) r1 hys fun z ws rw' => ?_
        exact P σ Hf1 _ g1.f ((S.gr g1).mut hq hO' e2 rw')
      · cases hF
    · cases hF
  · cases hF
def appendF : List D → List D → Option (List D) := fun xs ds => match ds with | [d] => if xs.length < sizeLine then some (xs ++ [d]) else none | _ => none
theorem r_append {K : PySem.W.Frag} : ∀ (φ : Nat → Addr) (Hf H : Hp) (a : Addr) (xs ds ys : List D) (vs us : List V) (Q : VK), Same Hf H → H a = some (.lst vs) → RpAll K φ Hf xs vs → RpAll K φ Hf ds us → appendF xs ds = some ys → (∀ z ws, RpAll K φ Hf ys ws → Q z (upd H a (.lst ws))) → rAppend (.ref a) us H Q :=
  fun φ Hf H a xs ds ys vs us Q s h r q e k => by
    unfold appendF at e
    split at e
    · split at e
      · rename_i hl
        cases e
        cases q with
        | cons q t =>
          cases t
          exact ⟨a, vs, _, rfl, rfl, h, by rw [← r.length]; exact hl, k _ _ (r.append (.one q))⟩
      · cases e
    · cases e
def insertF : List D → List D → Option (List D) := fun xs ds => match ds with | [.int i, d] => if xs.length < sizeLine ∧ 0 ≤ i ∧ i < 2 ^ 63 then some (xs.take i.toNat ++ [d] ++ xs.drop i.toNat) else none | _ => none
theorem r_insert {K : PySem.W.Frag} : ∀ (φ : Nat → Addr) (Hf H : Hp) (a : Addr) (xs ds ys : List D) (vs us : List V) (Q : VK), Same Hf H → H a = some (.lst vs) → RpAll K φ Hf xs vs → RpAll K φ Hf ds us → insertF xs ds = some ys → (∀ z ws, RpAll K φ Hf ys ws → Q z (upd H a (.lst ws))) →
    (∃ (l : Addr) (xs : List V) (i : Int) (y : V), V.ref a = .ref l ∧ us = [.int i, y] ∧ H l = some (.lst xs) ∧ xs.length < sizeLine ∧ 0 ≤ i ∧ i < 2 ^ 63 ∧ Q .non (upd H l (.lst (xs.take i.toNat ++ [y] ++ xs.drop i.toNat)))) :=
  fun φ Hf H a xs ds ys vs us Q s h r q e k => by
    unfold insertF at e
    split at e
    · split at e
      · rename_i hl
        cases e
        cases q with
        | cons q t =>
          cases t with
          | cons q2 t =>
            cases t
            cases q
            exact ⟨a, vs, _, _, rfl, rfl, h, by rw [← r.length]; exact hl.1, hl.2.1, hl.2.2, k _ _ (((r.take _).append (.one q2)).append (r.drop _))⟩
      · cases e
    · cases e
def popAtF : List D → List D → Option (List D) := fun xs ds => match ds with | [.int i] => if -(2 ^ 63) ≤ i ∧ i < 2 ^ 63 then (match ixN xs.length i with | some k => some (xs.eraseIdx k) | none => none) else none | _ => none
/-- xs[i] = e, xs a list of our own -/
def sPut (i : Nat) (Fi F : Env → Option D) : Env → Option Out := fun ρ => match F ρ with
  | some d => (match Fi ρ with
    | some (.int k) => (match eVar i ρ with | some (.lst xs) => (match ixN xs.length k with | some j => some (.nx (ρ.set i (some (.lst (xs.set j d))))) | none => none) | _ => none)
    | _ => none)
  | none => none
theorem fs_put {i : Nat} {x : Str} {ix : Expr} {xpos spos : Pos} {Fi : Env → Option D} (hN : X.N[i]? = some x) (hv : Vis X.env.scope x) (hO : O.contains i = true) (h : FE X O e F) (hi : FE X O ix Fi)
    (hd : (x == ("__debug__" : Str)) = false := by decide +kernel) (hcd : (x == ("__classdict__" : Str)) = false := by decide +kernel)
    (hsub : ∀ v, assign (.Subscript (.Name x xpos) ix spos) X.env v = (do
      let ov ← holding [v] (eval (.Name x xpos) X.env)
      let iv ← holding [v, ov] (eval ix X.env)
      standAt spos
      holding [v, ov, iv] (setItem ov iv v)
      release [v, ov, iv] []) := by intro _; rfl)
    (hs : swapsWithSole [.Subscript (.Name x xpos) ix spos] e pos.line X.env = pure false := by rfl) (hw : swappedStores [.Subscript (.Name x xpos) ix spos] e X.env = pure none := by rfl)
    (h1 : (assignEach [.Subscript (.Name x xpos) ix spos] X.env).map (·.2) = [assign (.Subscript (.Name x xpos) ix spos) X.env] := by rfl) :
    FS X fr L O O (.Assign [.Subscript (.Name x xpos) ix spos] e pos) (sPut i Fi F) := fun φ Hf0 H0 ρ σ Hf H out Dn S hF P => by
  unfold sPut at hF
  split at hF
  · rename_i d hd'
    split at hF
    · rename_i k hk
      split at hF
      · rename_i xs hxs
        split at hF
        · rename_i j hj
          cases hF
          have hq : ρ[i]? = some (some (.lst xs)) := by
            unfold eVar at hxs
            split at hxs
            · rename_i d' h; cases hxs; exact h
            · cases hxs
          have hO' : i ∈ O := by simpa using hO
          obtain ⟨a, xs', vs, e1, e2, e3, e4, e5, r0⟩ := S.own i _ hq hO'
          cases e1
          refine toS (ps_asg peW (pg_sub (pe_var hN hv hd hcd) peW set_list hsub) hs hw h1) ?_
          refine h φ Hf0 H0 ρ σ Hf H d _ S hd' fun v Hf1 H1 g1 r1 => ?_
          refine ⟨_, e2, ?_⟩
          refine hi φ Hf0 H0 ρ σ Hf1 H1 _ _ (S.gr g1) hk fun z Hf2 H2 g2 r2 => ?_
          cases r2
          have g := g1.trans g2
          refine ⟨a, vs, k, j, rfl, rfl, g.h _ _ e3, by rw [← r0.length]; exact hj, ?_⟩
          exact P σ Hf2 _ g.f ((S.gr g).mut hq hO' e2 ((r0.mono g.f).set j (r1.mono g2.f)))
        · cases hF
      · cases hF
    · cases hF
  · cases hF
/-! loops -/
theorem fs_for {iter : Expr} {body : List Stmt} {Fi : Env → Option (List D)} (hp : PassesOwn (model X.prog X.w) X.A X.env X.xe) (hc : X.calm = true) (hi : FI X O tg iter Fi) (hg : FG X O O1 tgs tg g) (hb : FSs X fr O O1 O body G) (hs : ∀ x, foldedSetIterable iter X.env x = pure x := by intro _; rfl) : FS X fr L O O (.For tg iter body [] pos) (sFor Fi g G) := fun φ Hf0 H0 ρ σ Hf H out Dn S hF P => by
  unfold sFor at hF
  split at hF
  · rename_i ds hds
    refine toS (ps_for hp hc piW pgW pssW hs) ?_
    refine hi φ Hf0 H0 ρ σ Hf H ds _ S hds fun J Hf1 H1 g1 itd => ?_
    refine ⟨fun i m σ2 H2 => m = ds.length - i ∧ i ≤ ds.length ∧ ∃ ρ2 Hf2, Same Hf1 Hf2 ∧ SR X.K φ Hf0 H0 O ρ2 σ2 Hf2 H2 ∧ loopF g G (ds.drop i) ρ2 = some out, ⟨ds.length, by simp, Nat.zero_le _, ρ, Hf1, Same.refl _, S.gr g1, by simpa using hF⟩, ?_⟩
    rintro i m σ2 H2 ⟨rfl, hil, ρ2, Hf2, s2, S2, hl⟩
    by_cases hlt : i < ds.length
    · right
      have hget : ds[i]? = some ds[i] := List.getElem?_eq_getElem hlt
      obtain ⟨hgo, hyld⟩ := (itd i Hf2 H2 s2 S2.sub).2 _ hget
      rw [List.drop_eq_getElem_cons hlt] at hl
      unfold loopF at hl
      split at hl
      · cases hl
      · rename_i ρ3 hρ3
        refine ⟨hgo, fun σ' H' => ∃ ρ' Hf', Same Hf1 Hf' ∧ SR X.K φ Hf0 H0 O ρ' σ' Hf' H' ∧ loopF g G (ds.drop (i + 1)) ρ' = some out, fun σ' H' ⟨ρ', Hf', a1, a2, a3⟩ => ⟨ds.length - (i + 1), by omega, rfl, hlt, ρ', Hf', a1, a2, a3⟩, fun x H3 hy => ?_⟩
        obtain ⟨Hf3, g3, r3⟩ := hyld x H3 hy
        have s3 := s2.trans g3.f
        refine hg φ Hf0 H0 ρ2 σ2 Hf3 H3 _ x ρ3 _ (S2.gr g3) r3 hρ3 fun σ4 S4 _ => ?_
        split at hl
        · rename_i ρ4 h4
          exact hb φ Hf0 H0 ρ3 σ4 Hf3 H3 _ _ S4 h4 fun σ' Hf' H' s' S' => ⟨ρ4, Hf', s3.trans s', S', hl⟩
        · rename_i ρ4 h4
          exact hb φ Hf0 H0 ρ3 σ4 Hf3 H3 _ _ S4 h4 fun σ' Hf' H' s' S' => ⟨ρ4, Hf', s3.trans s', S', hl⟩
        · rename_i ρ4 h4
          cases hl
          exact hb φ Hf0 H0 ρ3 σ4 Hf3 H3 _ _ S4 h4 fun σ' Hf' H' s' S' => P σ' Hf' H' (g1.f.trans (s3.trans s')) S'
        · rename_i d h4
          cases hl
          exact hb φ Hf0 H0 ρ3 σ4 Hf3 H3 _ _ S4 h4 P
        · cases hl
    · left
      have hie : i = ds.length := by omega
      subst hie
      rw [List.drop_length] at hl
      cases hl
      exact ⟨(itd _ Hf2 H2 s2 S2.sub).1 (Nat.le_refl _), P σ2 Hf2 H2 (g1.f.trans s2) S2⟩
  · cases hF
theorem fs_while {n : Nat} {c : Expr} {T : Env → Option Bool} {body : List Stmt} (hp : PassesOwn (model X.prog X.w) X.A X.env X.xe) (h : FT X O c T) (hb : FSs X fr O O O body G) : FS X fr L O O (.While c body [] pos) (sWhile n T G) := fun φ Hf0 H0 ρ σ Hf H out Dn S hF P => by
  refine toS (ps_while hp ptW pssW) ?_
  refine ⟨fun m σ2 H2 => ∃ ρ2 Hf2, Same Hf Hf2 ∧ SR X.K φ Hf0 H0 O ρ2 σ2 Hf2 H2 ∧ sWhile m T G ρ2 = some out, ⟨n, ρ, Hf, Same.refl _, S, hF⟩, ?_⟩
  rintro m σ2 H2 ⟨ρ2, Hf2, s2, S2, hl⟩
  cases m with
  | zero => cases hl
  | succ m =>
    unfold sWhile at hl
    split at hl
    · rename_i hT
      refine h φ Hf0 H0 ρ2 σ2 Hf2 H2 true _ S2 hT fun Hf3 H3 g3 => iteT ?_
      have s3 := s2.trans g3.f
      refine ⟨fun σ' H' => ∃ ρ' Hf', Same Hf Hf' ∧ SR X.K φ Hf0 H0 O ρ' σ' Hf' H' ∧ sWhile m T G ρ' = some out, fun σ' H' ⟨ρ', Hf', a1, a2, a3⟩ => ⟨m, Nat.lt_succ_self m, ρ', Hf', a1, a2, a3⟩, ?_⟩
      split at hl
      · rename_i ρ4 h4
        exact hb φ Hf0 H0 ρ2 σ2 Hf3 H3 _ _ (S2.gr g3) h4 fun σ' Hf' H' s' S' => ⟨ρ4, Hf', s3.trans s', S', hl⟩
      · rename_i ρ4 h4
        exact hb φ Hf0 H0 ρ2 σ2 Hf3 H3 _ _ (S2.gr g3) h4 fun σ' Hf' H' s' S' => ⟨ρ4, Hf', s3.trans s', S', hl⟩
      · rename_i ρ4 h4
        cases hl
        exact hb φ Hf0 H0 ρ2 σ2 Hf3 H3 _ _ (S2.gr g3) h4 fun σ' Hf' H' s' S' => P σ' Hf' H' (s3.trans s') S'
      · rename_i d h4
        cases hl
        exact hb φ Hf0 H0 ρ2 σ2 Hf3 H3 _ _ (S2.gr g3) h4 P
      · cases hl
    · rename_i hT
      cases hl
      exact h φ Hf0 H0 ρ2 σ2 Hf2 H2 false _ S2 hT fun Hf3 H3 g3 => iteF (P σ2 Hf3 H3 (s2.trans g3.f) (S2.gr g3))
    · cases hl
end

/-! ### defs -/
/-- the promise of a def that makes new things alone: m, its mirror over n arguments -/
def spF (K : PySem.W.Frag) (fr : Bool) (n : Nat) (m : List D → Option D) : Sp := fun vs H Q _ => ∃ (φ : Nat → Addr) (Hf : Hp) (ds : List D) (d : D), Same Hf H ∧ RpAll K φ Hf ds vs ∧ ds.length = n ∧ m ds = some d ∧ RtK K φ Hf H fr d Q
def envOf (N n : Nat) (ds : List D) : Env := ds.map some ++ List.replicate (N - n) none
/-- a def's mirror: its body's -/
def runD (fr : Bool) (N n : Nat) (G : Env → Option Out) (ds : List D) : Option D := match G (envOf N n ds) with
  | some (.rt d) => some d
  | some (.nx _) => if fr then none else some .non
  | _ => none
end FL
namespace FL
open PySem L2

/-! ### a def that makes new things alone, called by its name -/
structure CalK (P : Program) (w : World) (K : PySem.W.Frag) (mg : Str → Option Value) (base : Heap) (k : Nat) (x : Str) (fr : Bool) (n : Nat) (m : List D → Option D) : Prop where
  ok : ∃ (f : Addr) (fd : FuncData) (ps : List Str), FnOk P w K mg base CX0 k f fd ps (spF K fr n m) ∧ mg x = some (.ref f) ∧ PySem.W.keepIn K (.ref f) = true ∧ Binds K fd ps []
abbrev DefAt (K : PySem.W.Frag) (x : Str) (st : Stmt) (a : Addr) : Prop := ∃ fd, FunD K x x (defArgs st) (defBody st) (defScope st) [] [] a fd
section
variable {P : Program} {w : World} {K : PySem.W.Frag} {mg : Str → Option Value} {base : Heap} {k : Nat} {a : Addr} {ps N : List Str} {x : Str} {st : Stmt} {m : List D → Option D} {G : Env → Option Out}
theorem RpAll.val {φ : Nat → Addr} {H : Hp} {ds : List D} {vs : List V} (r : RpAll K φ H ds vs) (n : Nat) : ∀ (i : Nat) (d : D), (ds.map some ++ List.replicate n none)[i]? = some (some d) → ∃ v, (vs.map some ++ List.replicate n none)[i]? = some (some v) ∧ Rp K φ H d v := fun i d e => by
  by_cases hi : i < ds.length
  · rw [List.getElem?_append_left (by simpa using hi)] at e
    rw [List.getElem?_append_left (by rw [List.length_map, ← r.length]; exact hi)]
    rw [List.getElem?_map] at e ⊢
    cases hq : ds[i]? with
    | none => rw [hq] at e; cases e
    | some d' =>
      rw [hq] at e; cases e
      obtain ⟨v, h1, h2⟩ := r.get hq
      exact ⟨v, by rw [h1]; rfl, h2⟩
  · rw [List.getElem?_append_right (by simpa using hi), List.length_map, List.getElem?_replicate] at e
    split at e <;> cases e
theorem fnOk_of {fd : FuncData} {N' n : Nat} (F : FunD K x x (defArgs st) (defBody st) (defScope st) [] [] a fd) (S : FnScope N ps (defScope st)) (hN : N' = N.length) (hn : n = ps.length) {fr : Bool} (O' : List Nat)
    (hb : ∀ (cdv : Value) (A : Around) (outer : List PySem.Env) (s : Shared) (H : Hp) (E : XK), Room k (A.deeper (PyProof.Rows.envOfC x (defScope st) s.heap.objs.size a cdv)) →
      FSs (cxOf CX0 P w K mg base N x (defScope st) a cdv A outer s H E).nox fr [] [] O' (defBody st) G) : FnOk P w K mg base CX0 (k + 1) a fd ps (spF K fr n (runD fr N' n G)) := by
  subst hN hn
  refine FunD.ok F S (fun vs H Q E h => ?_) (fun cdv A outer s H vs Q E hr h => ?_)
  · obtain ⟨φ, Hf, ds, d, _, r, hl, _⟩ := h
    rw [← r.length]; exact hl
  · obtain ⟨φ, Hf, ds, d, hs, r, hl, hm, hk⟩ := h
    refine ⟨_, PSs.nox pssW, ?_⟩
    have hvl : vs.length = ps.length := by rw [← r.length]; exact hl
    unfold L2.start
    rw [hvl]
    unfold runD envOf at hm
    have S0 : SR K φ Hf H [] (ds.map some ++ List.replicate (N.length - ps.length) none) (vs.map some ++ List.replicate (N.length - ps.length) none) Hf H :=
      ⟨by simp [r.length], hs, Same.refl _, Same.refl _, fun _ _ _ z => z, fun i d e _ => r.val _ i d e, fun i d _ m => absurd m (by simp), fun i j _ _ _ _ _ m => absurd m (by simp)⟩
    split at hm
    · rename_i d' h'
      cases hm
      exact hb cdv A outer s H E hr φ Hf H _ _ Hf H _ _ S0 h' hk
    · rename_i ρ' h'
      cases fr with
      | false =>
        cases hm
        exact hb cdv A outer s H E hr φ Hf H _ _ Hf H _ _ S0 h' fun σ' Hf' H' s' S' => hk _ Hf' H' S'.from0 .non
      | true => cases hm
    · cases hm
theorem calK_of {N' n : Nat} (Dd : DefAt K x st a) (g : mg x = some (.ref a)) (S : FnScope N ps (defScope st)) (hN : N' = N.length) (hn : n = ps.length)
    (hbind : ∀ (kV doc pm : Value) (an : Option Addr) (cdv ct : Value) (us : List Value), us.length = ps.length → bindArgs (PySem.W.fnOf x x (defArgs st) (defBody st) (defScope st) .none kV doc pm an cdv ct) ⟨us, []⟩ = pure (ps.zip us))
    {fr : Bool} (O' : List Nat)
    (hb : ∀ (cdv : Value) (A : Around) (outer : List PySem.Env) (s : Shared) (H : Hp) (E : XK), Room k (A.deeper (PyProof.Rows.envOfC x (defScope st) s.heap.objs.size a cdv)) →
      FSs (cxOf CX0 P w K mg base N x (defScope st) a cdv A outer s H E).nox fr [] [] O' (defBody st) G) : CalK P w K mg base (k + 1) x fr n (runD fr N' n G) := by
  obtain ⟨fd, F⟩ := Dd
  exact ⟨a, fd, ps, fnOk_of F S hN hn O' hb, g, F.kp, FunD.bindsN F hbind⟩
/-- a def of which nothing is asked -/
theorem calK_zero {fr : Bool} {n : Nat} (Dd : DefAt K x st a) (g : mg x = some (.ref a)) (hbind : ∀ (kV doc pm : Value) (an : Option Addr) (cdv ct : Value) (us : List Value), us.length = ps.length → bindArgs (PySem.W.fnOf x x (defArgs st) (defBody st) (defScope st) .none kV doc pm an cdv ct) ⟨us, []⟩ = pure (ps.zip us)) : CalK P w K mg base k x fr n (fun _ => none) := by
  obtain ⟨fd, F⟩ := Dd
  exact ⟨a, fd, ps, ⟨fun vs H Q E ⟨_, _, _, _, _, _, _, h, _⟩ => (nomatch h), fun A outer s H args us vs Q E _ _ _ _ ⟨_, _, _, _, _, _, _, h, _⟩ => (nomatch h)⟩, g, F.kp, FunD.bindsN F hbind⟩
theorem CalK.mono {j : Nat} {fr : Bool} {n : Nat} (c : CalK P w K mg base j x fr n m) (h : j ≤ k) : CalK P w K mg base k x fr n m := by
  obtain ⟨f, fd, ps, F, q⟩ := c.ok
  exact ⟨f, fd, ps, F.mono h, q⟩
end
section
variable {X : Cx} {O : List Nat} {es : List Expr} {e : Expr} {x : Str} {p pos : Pos} {Fs : Env → Option (List D)} {k j : Nat} {n : Nat} {m : List D → Option D}
def mL (n : Nat) (m : List D → Option D) : List D → Option D := fun ds => if ds.length = n then m ds else none
theorem fe_call (c : CalK X.prog X.w X.K X.mg X.base j x false n m) (hr : Room k X.A) (hk : j ≤ k) (hg : Gl X x) (ha : FA X O (e :: es) Fs) (hdb : (x == ("__debug__" : Str)) = false := by decide +kernel) (he : starEach (e :: es) X.env = (false, eval e X.env) :: starEach es X.env := by rfl)
    (hpl : (backTo pos (starEach es X.env)).any (·.1) = false := by rfl) : FE X O (.Call (.Name x p) (e :: es) [] pos) (eL (mL n m) Fs) := by
  obtain ⟨f, fd, ps, F, hm, hkp, hb⟩ := c.ok
  intro φ Hf0 H0 ρ σ Hf H d Q S hF k'
  obtain ⟨ds, h1, h2⟩ := eL_some hF
  unfold mL at h2
  split at h2
  · rename_i hl
    refine toE (pe_call F (hr.mono hk) hg hm hkp hb .nil pass0 paW hdb he hpl) ?_
    refine ha φ Hf0 H0 ρ σ Hf H ds _ S h1 fun vs Hf1 H1 g1 r1 => ?_
    refine ⟨φ, Hf1, ds, d, g1.s, by rw [List.append_nil]; exact r1, hl, h2, fun v Hf2 H2 g2 r2 => k' v Hf2 H2 (g1.trans g2) r2⟩
  · cases h2
theorem fn_call (c : CalK X.prog X.w X.K X.mg X.base j x true n m) (hr : Room k X.A) (hk : j ≤ k) (hg : Gl X x) (ha : FA X O (e :: es) Fs) (hdb : (x == ("__debug__" : Str)) = false := by decide +kernel) (he : starEach (e :: es) X.env = (false, eval e X.env) :: starEach es X.env := by rfl)
    (hpl : (backTo pos (starEach es X.env)).any (·.1) = false := by rfl) : FN X O (.Call (.Name x p) (e :: es) [] pos) (eL (mL n m) Fs) := by
  obtain ⟨f, fd, ps, F, hm, hkp, hb⟩ := c.ok
  intro φ Hf0 H0 ρ σ Hf H d Q S hF k'
  obtain ⟨ds, h1, h2⟩ := eL_some hF
  unfold mL at h2
  split at h2
  · rename_i hl
    refine toE (pe_call F (hr.mono hk) hg hm hkp hb .nil pass0 paW hdb he hpl) ?_
    refine ha φ Hf0 H0 ρ σ Hf H ds _ S h1 fun vs Hf1 H1 g1 r1 => ?_
    refine ⟨φ, Hf1, ds, d, g1.s, by rw [List.append_nil]; exact r1, hl, h2, fun a xs us Hf2 H2 hd g2 q1 q2 q3 r2 => k' a xs us Hf2 H2 hd (g1.trans g2) (g1.h.free q1) q2 q3 r2⟩
  · cases h2
theorem fe_call0 (c : CalK X.prog X.w X.K X.mg X.base j x false 0 m) (hr : Room k X.A) (hk : j ≤ k) (hg : Gl X x) (hdb : (x == ("__debug__" : Str)) = false := by decide +kernel) : FE X O (.Call (.Name x p) [] [] pos) (eL (mL 0 m) aNil) := by
  obtain ⟨f, fd, ps, F, hm, hkp, hb⟩ := c.ok
  intro φ Hf0 H0 ρ σ Hf H d Q S hF k'
  obtain ⟨ds, h1, h2⟩ := eL_some hF
  cases h1
  exact toE (pe_call0 F (hr.mono hk) hg hm hkp hb .nil pass0 hdb) ⟨φ, Hf, [], d, S.sub, .nil, rfl, h2, fun v Hf2 H2 g2 r2 => k' v Hf2 H2 g2 r2⟩
theorem fn_call0 (c : CalK X.prog X.w X.K X.mg X.base j x true 0 m) (hr : Room k X.A) (hk : j ≤ k) (hg : Gl X x) (hdb : (x == ("__debug__" : Str)) = false := by decide +kernel) : FN X O (.Call (.Name x p) [] [] pos) (eL (mL 0 m) aNil) := by
  obtain ⟨f, fd, ps, F, hm, hkp, hb⟩ := c.ok
  intro φ Hf0 H0 ρ σ Hf H d Q S hF k'
  obtain ⟨ds, h1, h2⟩ := eL_some hF
  cases h1
  exact toE (pe_call0 F (hr.mono hk) hg hm hkp hb .nil pass0 hdb) ⟨φ, Hf, [], d, S.sub, .nil, rfl, h2, fun a xs us Hf2 H2 hd g2 q1 q2 q3 r2 => k' a xs us Hf2 H2 hd g2 q1 q2 q3 r2⟩
theorem u64 {A : Around} (h : Room k A) : A.units + 64 < cLine := h.units
theorem u65 {A : Around} (h : Room k A) : A.units + 65 < cLine := by have := h.un; omega
end

/-! ### constants of the module -/
mutual
def cB (K : PySem.W.Frag) : D → Value → Bool
  | .non, .none => true
  | .bl b, .bool c => b == c
  | .int i, .int j _ => decide (i = j)
  | .str x, .str y _ => decide (x = y)
  | .tup ds, .ref a => (match K.lookup a with
    | some ⟨.type c, _, .seq its _, _⟩ => decide (c = "tuple") && (decide (its.size ≤ sizeLine) && cBs K ds its.toList)
    | _ => false)
  | .klst ds, .ref a => (match K.lookup a with
    | some ⟨.type c, none, .seq its _, _⟩ => decide (c = "list") && (decide (its.size ≤ sizeLine) && cBs K ds its.toList)
    | _ => false)
  | _, _ => false
def cBs (K : PySem.W.Frag) : List D → List Value → Bool
  | [], [] => true
  | d :: ds, u :: us => cB K d u && cBs K ds us
  | _, _ => false
end
mutual
theorem cB_ok {K : PySem.W.Frag} : ∀ {d : D} {u : Value}, cB K d u = true → ∃ v, RelV v u ∧ RpK K d v
  | .non, u, h => by
    cases u <;> simp only [cB] at h <;> try (cases h)
    exact ⟨.non, rfl, fun _ _ => .non⟩
  | .bl b, u, h => by
    cases u <;> simp only [cB] at h <;> try (cases h)
    rename_i c
    have : b = c := by simpa using h
    subst this
    exact ⟨.bl b, rfl, fun _ _ => .bl b⟩
  | .int i, u, h => by
    cases u <;> simp only [cB] at h <;> try (cases h)
    rename_i j t
    have : i = j := of_decide_eq_true h
    subst this
    exact ⟨.int i, ⟨t, rfl⟩, fun _ _ => .int i⟩
  | .str x, u, h => by
    cases u <;> simp only [cB] at h <;> try (cases h)
    rename_i y t
    have : x = y := of_decide_eq_true h
    subst this
    exact ⟨.str x, ⟨t, rfl⟩, fun _ _ => .str x⟩
  | .tup ds, u, h => by
    cases u <;> simp only [cB] at h <;> try (cases h)
    rename_i a
    split at h
    · rename_i c od its n sl hq
      rw [Bool.and_eq_true, Bool.and_eq_true] at h
      obtain ⟨h1, h2, h3⟩ := h
      obtain ⟨vs, r1, r2⟩ := cBs_ok h3
      exact ⟨.ref a, rfl, fun φ H => .tup (.inr ⟨_, its, n, hq, congrArg Value.type (of_decide_eq_true h1), rfl, of_decide_eq_true h2, r1⟩) (r2 φ H)⟩
    · cases h
  | .klst ds, u, h => by
    cases u <;> simp only [cB] at h <;> try (cases h)
    rename_i a
    split at h
    · rename_i c its n sl hq
      rw [Bool.and_eq_true, Bool.and_eq_true] at h
      obtain ⟨h1, h2, h3⟩ := h
      obtain ⟨vs, r1, r2⟩ := cBs_ok h3
      exact ⟨.ref a, rfl, fun φ H => .klst (.inr ⟨_, its, n, hq, congrArg Value.type (of_decide_eq_true h1), rfl, rfl, of_decide_eq_true h2, r1⟩) (r2 φ H)⟩
    · cases h
  | .lst ds, u, h => by cases u <;> simp only [cB] at h <;> cases h
  | .obj i, u, h => by cases u <;> simp only [cB] at h <;> cases h
theorem cBs_ok {K : PySem.W.Frag} : ∀ {ds : List D} {us : List Value}, cBs K ds us = true → ∃ vs, Vals vs us ∧ ∀ φ H, RpAll K φ H ds vs
  | [], [], _ => ⟨[], .nil, fun _ _ => .nil⟩
  | d :: ds, u :: us, h => by
    simp only [cBs, Bool.and_eq_true] at h
    obtain ⟨v, r1, r2⟩ := cB_ok h.1
    obtain ⟨vs, q1, q2⟩ := cBs_ok h.2
    exact ⟨v :: vs, .cons r1 q1, fun φ H => .cons (r2 φ H) (q2 φ H)⟩
  | [], _ :: _, h => by simp [cBs] at h
  | _ :: _, [], h => by simp [cBs] at h
end
/-- the module's name x stands for d -/
def conB (K : PySem.W.Frag) (x : Str) (d : D) : Bool := match PySem.W.nsIn K mainGlobals x with
  | some (some u) => cB K d u
  | _ => false
def ConAt (K : PySem.W.Frag) (mg : Str → Option Value) (x : Str) (d : D) : Prop := ∃ u v, mg x = some u ∧ RelV v u ∧ RpK K d v
theorem conB_ok {K : PySem.W.Frag} {h : Heap} {mg : Str → Option Value} (X : K.In h) (G : h.Ns mainGlobals mg) {x : Str} {d : D} (c : conB K x d = true) : ConAt K mg x d := by
  unfold conB at c
  split at c
  · rename_i u hu
    obtain ⟨v, r1, r2⟩ := cB_ok c
    exact ⟨u, v, PySem.W.mg_of X G hu, r1, r2⟩
  · cases c

/-! ### the head's facts, and one more Bool -/
def obsF (n : Nat) (fa : List He.Fa) (fn : List He.DefD) (ex : PySem.W.Frag → Bool) (g : Addr → Option Obj) : He.AlD × Bool := (He.obsD fa fn (He.frG g (He.asD g n)), ex (He.frG g (He.asD g n)))
def SaysF (fa : List He.Fa) (fn : List He.DefD) (ex : PySem.W.Frag → Bool) (K : PySem.W.Frag) : Prop := He.SaysD fa fn K ∧ ex K = true
def hookF (n : Nat) (fa : List He.Fa) (fn : List He.DefD) (ex : PySem.W.Frag → Bool) : PySem.W.Hook where
  α := He.AlD × Bool
  obs := fun s => obsF n fa fn ex s.heap.get?
  val := fun _ => (He.valD fn, true)
  says := fun _ h => ∃ K : PySem.W.Frag, K.In h ∧ SaysF fa fn ex K
  of := fun _ _ e => ⟨_, He.frG_in, congrArg (fun z : He.AlD × Bool => z.1) e, congrArg (fun z : He.AlD × Bool => z.2) e⟩
  keeps := fun _ _ _ ⟨K, hK, c⟩ k => ⟨K, PySem.W.Frag.In.keeps hK k, c⟩
theorem obsF_eq {n : Nat} {fa : List He.Fa} {fn : List He.DefD} {ex : PySem.W.Frag → Bool} {g : Addr → Option Obj} {s : Shared} (h : ∀ a, g a = s.heap.get? a) : obsF n fa fn ex g = (hookF n fa fn ex).obs s := by
  have e : g = s.heap.get? := funext h
  rw [e] <;> rfl
theorem defAt_of {K : PySem.W.Frag} {fa : List He.Fa} {fn : List He.DefD} (c : He.SaysD fa fn K) {x : Str} {st : Stmt} (i : Nat) (h : fn[i]? = some ⟨(x, none), x, x, defArgs st, defBody st, defScope st, [], []⟩) : DefAt K x st (He.ga K x) := c.def_ i h

/-! ### the law's end -/
theorem law_sp {K : PySem.W.Frag} {m : List D → Option D} (hm : ∀ ns : List Int, ns.length ≤ 63 → m [.klst (ns.map D.int)] = some (.bl true)) :
    ∀ (H : Hp) (a : Addr) (ns : List Int), ns.length ≤ 63 → L2.Only H → SqL K H a (ns.map V.int) → spF K false 1 m [.ref a] H (fun v _ => v = .bl true) fun _ _ _ => False := fun H a ns hl _ hS => by
  have r : RpAll K (fun _ => 0) H (ns.map D.int) (ns.map V.int) := by
    induction ns with
    | nil => exact .nil
    | cons n ns ih =>
      have : ∀ l : List Int, RpAll K (fun _ => 0) H (l.map D.int) (l.map V.int) := fun l => by
        induction l with
        | nil => exact .nil
        | cons z l ih2 => exact .cons (.int z) ih2
      exact this (n :: ns)
  exact ⟨fun _ => 0, H, [.klst (ns.map D.int)], .bl true, Same.refl _, .cons (.klst hS r) .nil, rfl, hm ns hl, fun v Hf' H' g r => by cases r; rfl⟩
end FL
namespace FL
open PySem L2
def negD : D → Option D | .int i => some (.int (-i)) | _ => none
section
variable {X : Cx} {O : List Nat} {a b e : Expr} {pos : Pos} {F G : Env → Option D}
theorem fe_neg (h : FE X O a F) : FE X O (.UnaryOp .USub a pos) (e1 negD F) := by
  intro φ Hf0 H0 ρ σ Hf H d Q S hF k
  obtain ⟨x, h1, h2⟩ := e1_some hF
  refine toE (pe_un un_neg peW) ?_
  refine h φ Hf0 H0 ρ σ Hf H x _ S h1 fun v Hf1 H1 g1 r1 => ?_
  unfold negD at h2
  split at h2
  · cases h2
    cases r1
    exact ⟨_, rfl, k _ Hf1 H1 g1 (.int _)⟩
  · cases h2
theorem r_popAt {K : PySem.W.Frag} : ∀ (φ : Nat → Addr) (Hf H : Hp) (a : Addr) (xs ds ys : List D) (vs us : List V) (Q : VK), Same Hf H → H a = some (.lst vs) → RpAll K φ Hf xs vs → RpAll K φ Hf ds us → popAtF xs ds = some ys → (∀ z ws, RpAll K φ Hf ys ws → Q z (upd H a (.lst ws))) → rPopAt (.ref a) us H Q :=
  fun φ Hf H a xs ds ys vs us Q s h r q e k => by
    unfold popAtF at e
    split at e
    · split at e
      · rename_i hb
        split at e
        · rename_i j hj
          cases e
          cases q with
          | cons q t =>
            cases t
            cases q
            rw [r.length] at hj
            obtain ⟨h1, h2, h3, h4⟩ := ixN_seq hj
            refine ⟨a, vs, _, j, vs[j], rfl, rfl, h, hb.1, hb.2, h1, List.getElem?_eq_getElem h2, k _ _ (r.eraseIdx j)⟩
        · cases e
      · cases e
    · cases e
end
end FL
namespace FL
open PySem L2
/-! ### names that nobody reads any more -/
def sForget (vs : List Nat) (G : Env → Option Out) : Env → Option Out := fun ρ => G (wipeE ρ vs)
theorem SR.forget {K : PySem.W.Frag} {φ : Nat → Addr} {Hf0 H0 Hf H : Hp} {O : List Nat} {ρ : Env} {σ : St} (S : SR K φ Hf0 H0 O ρ σ Hf H) (vs : List Nat) : SR K φ Hf0 H0 O (wipeE ρ vs) σ Hf H :=
  ⟨by rw [wipeE_len]; exact S.len, S.sub, S.gf, S.gh, S.gn, fun i d e n => S.val i d (wipeE_some e).1 n, fun i d e m => S.own i d (wipeE_some e).1 m, fun i j d e a h1 h2 m1 m2 hne q1 => S.ne i j d e a (wipeE_some h1).1 (wipeE_some h2).1 m1 m2 hne q1⟩
theorem fss_forget {X : Cx} {fr : Bool} {L O O' : List Nat} {sts : List Stmt} {G : Env → Option Out} (vs : List Nat) (h : FSs X fr L O O' sts G) : FSs X fr L O O' sts (sForget vs G) := fun φ Hf0 H0 ρ σ Hf H out Dn S hF P =>
  h φ Hf0 H0 (wipeE ρ vs) σ Hf H out Dn (S.forget vs) hF P
end FL
namespace FL
open PySem L2 PyProof.Rows
/-! ### xs.extend(a tuple) -/
section
open PySem.SeqAt PySem.AutoSeq1 PySem.MeetsSeq2 PySem.MeetsSeq3 PySem.MeetsSeq
/-- as the library's rule for a plain tuple; here the tuple may have fields and slots -/
theorem ext_tup {a t : Addr} {xs zs : Array Value} {k m : Nat} {dz : Option Addr} {sz : Array (Option Value)} (h1 : xs.size ≤ sizeLine) (h2 : xs.size + zs.size ≤ sizeLine) :
    Meets (Builtin.«list.extend» ⟨[.ref a, .ref t], []⟩) (fun _ Rr st => st.heap.get? a = some { cls := .type "list", dict := none, data := .seq xs k, slots := #[] } ∧
      st.heap.get? t = some { cls := .type "tuple", dict := dz, data := .seq zs m, slots := sz } ∧ Rr (.ok (.ret Value.none)) { st with heap := st.heap.update a (Obj.mapSeq fun ys => ys ++ zs), toks := st.toks }) := by
  have short : ¬ (!xs.isEmpty && Builtin.List.listTooLong (xs.size + zs.size)) = true := fun bad => by
    have := notLongL h2
    simp [this] at bad
  have room : (xs ++ zs).size ≤ sizeLine + 1 := Nat.le_succ_of_le (by simpa using h2)
  refine .of_wp fun P W0 B Rr st hyp => ?_
  rcases st with ⟨heap, glob, dep, tks, out⟩
  rcases hyp with ⟨ha, ht, hR⟩
  have q1 := idx_int; have q2 := AutoSeq1.sub_tuple_list; have q3 := AutoSeq1.sub_list_tuple; have q4 := AutoSeq1.sub_list_list; have q5 := AutoSeq1.sub_tuple_tuple
  wp_walk using wpAny_loadPart' ht, wpAny_loadPart' ha, (wpAny_updateSeq ha rfl (hz := h1) (_hz' := room))
  exact ⟨_, rfl, hR⟩
end
section
variable {X : Cx} {O : List Nat}
def rExtT (K : PySem.W.Frag) : V → List V → Hp → VK → Prop := fun v vs H Q => ∃ a t xs zs, v = .ref a ∧ vs = [.ref t] ∧ H a = some (.lst xs) ∧ SqT K H t zs ∧ xs.length + zs.length ≤ sizeLine ∧ Q .non (upd H a (.lst (xs ++ zs)))
theorem mt_extT : MtR X "list.extend" (rExtT X.K) := fun pins s σ H v vs u us Q I r1 r2 ⟨a, t, xs, zs, e1, e2, ha, ht, hl, k⟩ => by
  subst e1 e2
  cases r1
  rcases r2.one with ⟨_, rfl, ⟨⟩⟩
  rcases I.lstM ha with ⟨l1, ys, n, rx, lx, gx⟩
  rcases I.tuple ht with ⟨ws, rz, ⟨⟨oc, odd, oda, osl⟩, gz, ec, n2, ed⟩, _⟩
  cases ec
  cases ed
  have lz := rz.length
  have b1 : ys.toArray.size ≤ sizeLine := by simpa [← lx] using l1
  have b2 : ys.toArray.size + ws.toArray.size ≤ sizeLine := by simpa [← lx, ← lz] using hl
  exact call_meets PySem.F.slot_list_extend ⟨_, gx, rfl⟩ PySem.F.entry_list_extend (PySem.F.args_list_extend_2 _ _) (ext_tup b1 b2) ⟨gx, gz, .non, _, I.lset (its' := ys ++ ws) ha gx (List.append_toArray ..) (rx.append rz) (by simpa using hl), rfl, k⟩
def extendF : List D → List D → Option (List D) := fun xs ds => match ds with | [.tup zs] => if xs.length + zs.length ≤ sizeLine then some (xs ++ zs) else none | _ => none
theorem r_extend {K : PySem.W.Frag} : ∀ (φ : Nat → Addr) (Hf H : Hp) (a : Addr) (xs ds ys : List D) (vs us : List V) (Q : VK), Same Hf H → H a = some (.lst vs) → RpAll K φ Hf xs vs → RpAll K φ Hf ds us → extendF xs ds = some ys → (∀ z ws, RpAll K φ Hf ys ws → Q z (upd H a (.lst ws))) → rExtT K (.ref a) us H Q :=
  fun φ Hf H a xs ds ys vs us Q s h r q e k => by
    unfold extendF at e
    split at e
    · rename_i zs
      split at e
      · rename_i hl
        cases e
        cases q with
        | cons q t =>
          cases t
          cases q with
          | tup q1 q2 => exact ⟨a, _, vs, _, rfl, rfl, h, SqT_same s q1, by rw [← r.length, ← q2.length]; exact hl, k _ _ (r.append q2)⟩
      · cases e
    · cases e
end
end FL
namespace FL
open PySem
/-! ### a mirror run by hand, a statement at a time -/
section
variable {F : Env → Option D} {G A B : Env → Option Out} {i : Nat} {ρ ρ' : Env} {C : Env → Option Bool} {d : D}
theorem seqSet_eq (h : F ρ = F ρ') (k : ∀ d, G (ρ.set i (some d)) = G (ρ'.set i (some d))) : sSeq (sSet i F) G ρ = sSeq (sSet i F) G ρ' := by
  unfold sSeq sSet
  rw [h]
  cases F ρ' with
  | none => rfl
  | some d => exact k d
theorem seqIf_eq (h : C ρ = C ρ') (k1 : sSeq A G ρ = sSeq A G ρ') (k2 : sSeq B G ρ = sSeq B G ρ') : sSeq (sIf C A B) G ρ = sSeq (sIf C A B) G ρ' := by
  unfold sSeq sIf at *
  rw [h]
  cases C ρ' with
  | none => rfl
  | some b => cases b with
    | true => exact k1
    | false => exact k2
theorem forget_eq {vs : List Nat} (h : G (wipeE ρ vs) = G (wipeE ρ' vs)) : sForget vs G ρ = sForget vs G ρ' := h
theorem runD_eq {fr : Bool} {N n : Nat} {ds ds' : List D} (h : G (envOf N n ds) = G (envOf N n ds')) : runD fr N n G ds = runD fr N n G ds' := by
  unfold runD
  rw [h]
theorem runD_rt {fr : Bool} {N n : Nat} {ds : List D} (h : G (envOf N n ds) = some (.rt d)) : runD fr N n G ds = some d := by
  unfold runD
  rw [h]
theorem seq_set {o : Option Out} (h : F ρ = some d) (k : G (ρ.set i (some d)) = o) : sSeq (sSet i F) G ρ = o := by
  unfold sSeq sSet
  rw [h]; exact k
theorem seq_t {o : Option Out} (h : C ρ = some true) (k : sSeq A G ρ = o) : sSeq (sIf C A B) G ρ = o := by
  unfold sSeq sIf at *
  rw [h]; exact k
theorem seq_f {o : Option Out} (h : C ρ = some false) (k : sSeq B G ρ = o) : sSeq (sIf C A B) G ρ = o := by
  unfold sSeq sIf at *
  rw [h]; exact k
theorem seq_if {o : Option Out} {b : Bool} (h : C ρ = some b) (k1 : b = true → sSeq A G ρ = o) (k2 : b = false → sSeq B G ρ = o) : sSeq (sIf C A B) G ρ = o := by
  cases b with
  | true => exact seq_t h (k1 rfl)
  | false => exact seq_f h (k2 rfl)
theorem seq_as {o : Option Out} (k : sSeq A (sSeq B G) ρ = o) : sSeq (sSeq A B) G ρ = o := by
  unfold sSeq at *
  cases h : A ρ with
  | none => rw [h] at k; simpa using k
  | some z => cases z <;> (rw [h] at k; simpa using k)
theorem seq_nil {o : Option Out} (k : G ρ = o) : sSeq sNil G ρ = o := k
theorem seq_fg {vs : List Nat} {o : Option Out} (k : G (wipeE ρ vs) = o) : sForget vs G ρ = o := k
theorem seq_ret (h : F ρ = some d) : sSeq (sRet F) G ρ = some (.rt d) := by
  unfold sSeq sRet
  rw [h]
theorem seq_for {Fi : Env → Option (List D)} {g : D → Env → Option Env} {ds : List D} {o : Option Out} (h : Fi ρ = some ds) (k : loopF g B ds ρ = some (.nx ρ')) (k2 : G ρ' = o) : sSeq (sFor Fi g B) G ρ = o := by
  unfold sSeq sFor
  rw [h]
  simp only [k]
  exact k2
theorem seq_asg {g : D → Env → Option Env} {o : Option Out} (h : F ρ = some d) (hg : g d ρ = some ρ') (k : G ρ' = o) : sSeq (sAsg g F) G ρ = o := by
  unfold sSeq sAsg
  rw [h]
  simp only [hg]
  exact k
theorem not_val {C : Env → Option Bool} {ρ : Env} {b : Bool} (h : C ρ = some b) : tNot C ρ = some (!b) := by
  unfold tNot
  rw [h]
theorem loop_nx {g : D → Env → Option Env} {I : Nat → Env → Prop} : ∀ (ds : List D) (j : Nat) (ρ : Env), (∀ (i : Nat) (ρ : Env) (d : D), I (j + i) ρ → ds[i]? = some d → ∃ ρ1 ρ2, g d ρ = some ρ1 ∧ B ρ1 = some (.nx ρ2) ∧ I (j + i + 1) ρ2) → I j ρ → ∃ ρ', loopF g B ds ρ = some (.nx ρ') ∧ I (j + ds.length) ρ'
  | [], j, ρ, _, h => ⟨ρ, rfl, h⟩
  | d :: ds, j, ρ, hs, h => by
    obtain ⟨ρ1, ρ2, e1, e2, h2⟩ := hs 0 ρ d h rfl
    obtain ⟨ρ', e3, h3⟩ := loop_nx ds (j + 1) ρ2 (fun i ρ d hi hd => by
      have e : j + 1 + i = j + (i + 1) := by omega
      rw [e] at hi ⊢
      exact hs (i + 1) ρ d hi (by simpa using hd)) h2
    refine ⟨ρ', ?_, by rw [List.length_cons, show j + (ds.length + 1) = j + 1 + ds.length by omega]; exact h3⟩
    unfold loopF
    rw [e1]
    simp only [e2]
    exact e3
theorem rngD_get {lo : Int} {n i : Nat} {d : D} (h : (rngD lo n)[i]? = some d) : i < n ∧ d = .int (lo + (i : Int)) := by
  unfold rngD at h
  rw [List.getElem?_map] at h
  cases hq : (List.range n)[i]? with
  | none => rw [hq] at h; cases h
  | some c =>
    rw [hq] at h; cases h
    obtain ⟨h1, h2⟩ := List.getElem?_eq_some_iff.mp hq
    have h3 : i < n := by simpa using h1
    have h4 : c = i := by simpa using h2.symm
    subst h4
    exact ⟨h3, rfl⟩
theorem rngD_len {lo : Int} {n : Nat} : (rngD lo n).length = n := by simp [rngD]
theorem atI_nat {α : Type} {xs : List α} {k : Nat} {x : α} (h : xs[k]? = some x) : L2.atI xs (k : Int) = some x := by
  have hk := (List.getElem?_eq_some_iff.mp h).1
  unfold L2.atI L2.ixN
  rw [if_pos (by omega), if_pos (by omega)]
  simpa using h
end

theorem eL_val {f : List D → Option D} {Fs : Env → Option (List D)} {ρ : Env} {ds : List D} {o : Option D} (h : Fs ρ = some ds) (k : f ds = o) : eL f Fs ρ = o := by
  unfold eL
  rw [h]; exact k
theorem e2_val {f : D → D → Option D} {F G : Env → Option D} {ρ : Env} {x y : D} {o : Option D} (h1 : F ρ = some x) (h2 : G ρ = some y) (k : f x y = o) : e2 f F G ρ = o := by
  unfold e2
  rw [h1, h2]; exact k
theorem aCons_val {F : Env → Option D} {G : Env → Option (List D)} {ρ : Env} {d : D} {ds : List D} (h1 : F ρ = some d) (h2 : G ρ = some ds) : aCons F G ρ = some (d :: ds) := by
  unfold aCons
  rw [h1, h2]
theorem mL_val {n : Nat} {m : List D → Option D} {ds : List D} {o : Option D} (h : ds.length = n) (k : m ds = o) : mL n m ds = o := by
  unfold mL
  rw [if_pos h]; exact k
theorem tB_val {f : D → Option Bool} {F : Env → Option D} {ρ : Env} {x : D} {o : Option Bool} (h1 : F ρ = some x) (k : f x = o) : tB f F ρ = o := by
  unfold tB
  rw [h1]; exact k
theorem mod_cases5 (z : Int) : z % 5 = 0 ∨ z % 5 = 1 ∨ z % 5 = 2 ∨ z % 5 = 3 ∨ z % 5 = 4 := by omega

/-! ### are two trees the same: the law's own -/
def isSameG (r : List D → Option D) : FL.Env → Option Out :=
    (sSeq (sIf (tOr (tB truD (e1 (isiD "tuple") (eVar 1))) (tB truD (e1 (isiD "list") (eVar 1))))
      (sSeq (sIf (tAnd (tB truD (e1 (isiD "tuple") (eVar 1))) (tNot (tB truD (e1 (isiD "tuple") (eVar 0)))))
      (sSeq (sRet (eC (.bl false)))
    sNil)
      sNil)
    (sSeq (sIf (tAnd (tB truD (e1 (isiD "list") (eVar 1))) (tNot (tB truD (e1 (isiD "list") (eVar 0)))))
      (sSeq (sRet (eC (.bl false)))
    sNil)
      sNil)
    (sSeq (sIf (tB blD (e2 neD (eL lenD (aCons (eVar 0) aNil)) (eL lenD (aCons (eVar 1) aNil))))
      (sSeq (sRet (eC (.bl false)))
    sNil)
      sNil)
    (sSeq (sFor (iRng1 (aCons (eL lenD (aCons (eVar 1) aNil)) aNil)) (gSet 2)
      (sSeq (sIf (tNot (tB truD (eL (mL 2 r) (aCons (e2 ixD (eVar 0) (eVar 2)) (aCons (e2 ixD (eVar 1) (eVar 2)) aNil)))))
      (sSeq (sRet (eC (.bl false)))
    sNil)
      sNil)
    sNil))
    (sSeq (sRet (eC (.bl true)))
    sNil)))))
      sNil)
    (sForget [2] (sSeq (sIf (tB blD (e2 isD (eVar 1) (eC .non)))
      (sSeq (sRet (e2 isD (eVar 0) (eC .non)))
    sNil)
      sNil)
    (sSeq (sIf (tB truD (e1 (isiD "bool") (eVar 1)))
      (sSeq (sRet (eAnd (e1 (isiD "bool") (eVar 0)) (e2 eqD (eVar 0) (eVar 1))))
    sNil)
      sNil)
    (sSeq (sIf (tB truD (e1 (isiD "int") (eVar 1)))
      (sSeq (sRet (eAnd (e1 (isiD "int") (eVar 0)) (eAnd (e1 notD (e1 (isiD "bool") (eVar 0))) (e2 eqD (eVar 0) (eVar 1)))))
    sNil)
      sNil)
    (sSeq (sRet (eAnd (e1 (isiD "str") (eVar 0)) (e2 eqD (eVar 0) (eVar 1))))
    sNil))))))
def isSame : Nat → List D → Option D
  | 0 => fun _ => none
  | n + 1 => runD false 3 2 (isSameG (isSame n))
/-- a tree that is not too deep or too long -/
def okS : Nat → D → Bool
  | 0, _ => false
  | _ + 1, .obj _ => false
  | n + 1, .tup xs => decide (xs.length < 1000000) && xs.all (okS n)
  | n + 1, .lst xs => decide (xs.length < 1000000) && xs.all (okS n)
  | n + 1, .klst xs => decide (xs.length < 1000000) && xs.all (okS n)
  | _ + 1, _ => true
theorem sEq_self (x : Str) : sEq x x = true := by simp [sEq]
theorem isSame_seq {n : Nat} {d : D} {xs : List D} (hx : seqD d = some xs) (hlen : xs.length < 1000000) (ih : ∀ x ∈ xs, isSame n [x, x] = some (.bl true))
    (c1 : tOr (tB truD (e1 (isiD "tuple") (eVar 1))) (tB truD (e1 (isiD "list") (eVar 1))) [some d, some d, none] = some true)
    (c2 : tAnd (tB truD (e1 (isiD "tuple") (eVar 1))) (tNot (tB truD (e1 (isiD "tuple") (eVar 0)))) [some d, some d, none] = some false)
    (c3 : tAnd (tB truD (e1 (isiD "list") (eVar 1))) (tNot (tB truD (e1 (isiD "list") (eVar 0)))) [some d, some d, none] = some false)
    (hix : ∀ k : Nat, ixD d (.int (k : Int)) = L2.atI xs (k : Int)) : isSame (n + 1) [d, d] = some (.bl true) := by
  have hl : lenD [d] = some (.int xs.length) := by unfold lenD; simp [hx]
  refine runD_rt ?_
  show isSameG (isSame n) [some d, some d, none] = _
  unfold isSameG
  refine seq_t c1 (seq_as (seq_f c2 (seq_nil (seq_as (seq_f c3 (seq_nil (seq_as (seq_f ?_ (seq_nil (seq_as ?_)))))))))) 
  · simp [tB, e2, eL, aCons, aNil, eVar, hl, neD, eqB, scEq, blD]
  · have hr : iRng1 (aCons (eL lenD (aCons (eVar 1) aNil)) aNil) [some d, some d, none] = some (rngD 0 xs.length) := by
      have hb : -(2 ^ 62 : Int) ≤ (xs.length : Int) ∧ (xs.length : Int) < 2 ^ 62 := by omega
      simp [iRng1, aCons, aNil, eL, eVar, hl]
      omega
    obtain ⟨ρ', e1', h'⟩ := loop_nx (g := gSet 2) (B := (sSeq (sIf (tNot (tB truD (eL (mL 2 (isSame n)) (aCons (e2 ixD (eVar 0) (eVar 2)) (aCons (e2 ixD (eVar 1) (eVar 2)) aNil))))) (sSeq (sRet (eC (.bl false))) sNil) sNil) sNil))
      (I := fun _ ρ => ∃ z, ρ = [some d, some d, z]) (rngD 0 xs.length) 0 [some d, some d, none] (fun i ρ x hI hd => by
        obtain ⟨z, rfl⟩ := hI
        obtain ⟨hi, rfl⟩ := rngD_get hd
        have hg : xs[i]? = some xs[i] := List.getElem?_eq_getElem hi
        have ha := atI_nat hg
        refine ⟨_, [some d, some d, some (.int (0 + (i : Int)))], rfl, ?_, _, rfl⟩
        have ht : tNot (tB truD (eL (mL 2 (isSame n)) (aCons (e2 ixD (eVar 0) (eVar 2)) (aCons (e2 ixD (eVar 1) (eVar 2)) aNil)))) [some d, some d, some (.int (0 + (i : Int)))] = some false := by
          have hz : (0 + (i : Int)) = (i : Int) := by omega
          simp only [tNot, tB, eL, aCons, aNil, e2, eVar, List.getElem?_cons_zero, List.getElem?_cons_succ, hz, hix, ha, mL, List.length, Nat.zero_add, Nat.reduceAdd, ↓reduceIte, ih _ (List.getElem_mem hi), truD, Bool.not_true]
        exact seq_f ht rfl) ⟨none, rfl⟩
    obtain ⟨z, rfl⟩ := h'
    exact seq_for hr e1' (seq_as (seq_ret rfl))
theorem isSame_refl : ∀ (n : Nat) (d : D), okS n d = true → isSame n [d, d] = some (.bl true)
  | 0, _, h => by cases h
  | n + 1, .non, _ => by kernel_rfl
  | n + 1, .bl b, _ => by cases b <;> kernel_rfl
  | n + 1, .int i, _ => by
    have e : isSame (n + 1) [.int i, .int i] = some (.bl (i == i)) := by kernel_rfl
    rw [e]; simp
  | n + 1, .str x, _ => by
    have e : isSame (n + 1) [.str x, .str x] = some (.bl (sEq x x)) := by kernel_rfl
    rw [e, sEq_self]
  | n + 1, .tup xs, h => by
    have h' : xs.length < 1000000 ∧ ∀ x ∈ xs, okS n x = true := by simpa [okS] using h
    exact isSame_seq (xs := xs) rfl h'.1 (fun x hx => isSame_refl n x (h'.2 x hx)) (by kernel_rfl) (by kernel_rfl) (by kernel_rfl) (fun _ => rfl)
  | n + 1, .lst xs, h => by
    have h' : xs.length < 1000000 ∧ ∀ x ∈ xs, okS n x = true := by simpa [okS] using h
    exact isSame_seq (xs := xs) rfl h'.1 (fun x hx => isSame_refl n x (h'.2 x hx)) (by kernel_rfl) (by kernel_rfl) (by kernel_rfl) (fun _ => rfl)
  | n + 1, .klst xs, h => by
    have h' : xs.length < 1000000 ∧ ∀ x ∈ xs, okS n x = true := by simpa [okS] using h
    exact isSame_seq (xs := xs) rfl h'.1 (fun x hx => isSame_refl n x (h'.2 x hx)) (by kernel_rfl) (by kernel_rfl) (by kernel_rfl) (fun _ => rfl)
  | n + 1, .obj i, h => by cases h

/-! ### the script's cells -/
def cellG : FL.Env → Option Out :=
    (sSeq (sIf (tB blD (e2 ltD (eVar 1) (eL lenD (aCons (eVar 0) aNil))))
      (sSeq (sRet (eL intD (aCons (e2 ixD (eVar 0) (eVar 1)) aNil)))
    sNil)
      sNil)
    (sForget [0, 1] (sSeq (sRet (eC (.int 0)))
    sNil)))
def cellM : List D → Option D := runD false 2 2 cellG
def scr (ns : List Int) : D := .klst (ns.map D.int)
theorem cell_eq (ns : List Int) (k : Nat) : cellM [scr ns, .int k] = some (.int (ns.getD k 0)) := by
  have hl : (ns.map D.int).length = ns.length := List.length_map ..
  by_cases h : k < ns.length
  · have h2 : (k : Int) < (ns.length : Int) := by omega
    have h3 : L2.atI (ns.map D.int) (k : Int) = some (.int (ns.getD k 0)) := atI_nat (by simp [h])
    simp [scr, cellM, runD, cellG, envOf, sSeq, sIf, tB, e2, ltD, eL, lenD, aCons, aNil, eVar, seqD, sRet, intD, ixD, blD, h2, h3]
  · have h2 : ¬ (k : Int) < (ns.length : Int) := by omega
    have h4 : ns.getD k 0 = 0 := by simp [Nat.le_of_not_lt h]
    rw [h4]
    simp [scr, cellM, runD, cellG, envOf, sSeq, sIf, tB, e2, ltD, eL, lenD, aCons, aNil, eVar, seqD, sRet, intD, ixD, blD, h2, sNil, sForget, wipeE, eC]

/-! ### a drawn standing -/
def spotG : FL.Env → Option Out :=
    (sSeq (sSet 1 (e2 modD (eL intD (aCons (eVar 0) aNil)) (eC (.int 200))))
    (sForget [0] (sSeq (sSet 2 (eL tupD (aCons (e2 modD (e2 fdivD (eVar 1) (eC (.int 2))) (eC (.int 10))) (aCons (e2 eqD (e2 modD (e2 fdivD (eVar 1) (eC (.int 20))) (eC (.int 2))) (eC (.int 1))) (aCons (e2 eqD (e2 modD (e2 fdivD (eVar 1) (eC (.int 40))) (eC (.int 2))) (eC (.int 1))) aNil)))))
    (sSeq (sIf (tB blD (e2 eqD (e2 fdivD (eVar 1) (eC (.int 80))) (eC (.int 2))))
      (sSeq (sSet 2 (eC .non))
    sNil)
      sNil)
    (sSeq (sRet (eL tupD (aCons (eVar 2) (aCons (e2 eqD (e2 modD (eVar 1) (eC (.int 2))) (eC (.int 1))) aNil))))
    sNil)))))
def spotM : List D → Option D := runD false 3 1 spotG
/-- a field or None -/
def IsFld (F : D) : Prop := F = .non ∨ ∃ (v : Int) (c g : Bool), F = .tup [.int v, .bl c, .bl g] ∧ 0 ≤ v ∧ v < 10
theorem spot_form (z : Int) : ∃ (F : D) (s : Bool), spotM [.int z] = some (.tup [F, .bl s]) ∧ IsFld F := by
  cases hb : (z % 200 / 80 == 2) with
  | true =>
    refine ⟨.non, z % 200 % 2 == 1, runD_rt ?_, .inl rfl⟩
    exact seq_set (d := .int (z % 200)) (by kernel_rfl) (seq_fg (seq_set (d := .tup [.int (z % 200 / 2 % 10), .bl (z % 200 / 20 % 2 == 1), .bl (z % 200 / 40 % 2 == 1)]) (by kernel_rfl) (seq_t (hb ▸ (by kernel_rfl)) (seq_as (seq_set (d := .non) (by kernel_rfl) (seq_nil (seq_ret (by kernel_rfl))))))))
  | false =>
    refine ⟨.tup [.int (z % 200 / 2 % 10), .bl (z % 200 / 20 % 2 == 1), .bl (z % 200 / 40 % 2 == 1)], z % 200 % 2 == 1, runD_rt ?_, .inr ⟨_, _, _, rfl, by omega, by omega⟩⟩
    exact seq_set (d := .int (z % 200)) (by kernel_rfl) (seq_fg (seq_set (d := .tup [.int (z % 200 / 2 % 10), .bl (z % 200 / 20 % 2 == 1), .bl (z % 200 / 40 % 2 == 1)]) (by kernel_rfl) (seq_f (hb ▸ (by kernel_rfl)) (seq_nil (seq_ret (by kernel_rfl))))))
theorem label_form (z : Int) : ∃ L : Str, ixD (.str "abcdefgh") (.int (z % 8)) = some (.str L) ∧ L ∈ (["a", "b", "c", "d", "e", "f", "g", "h"] : List String).map Str.ofString := by
  have h1 := Int.emod_nonneg z (show (8 : Int) ≠ 0 by decide)
  have h2 := Int.emod_lt_of_pos z (show (0 : Int) < 8 by decide)
  obtain ⟨k, hk⟩ : ∃ k : Nat, z % 8 = (k : Int) ∧ k < 8 := ⟨(z % 8).toNat, by omega, by omega⟩
  have all : ∀ k : Fin 8, ∃ L ∈ (["a", "b", "c", "d", "e", "f", "g", "h"] : List String).map Str.ofString, ixD (.str "abcdefgh") (.int (k.val : Int)) = some (.str L) := by
    intro k
    match k with
    | 0 => exact ⟨Str.ofString "a", by simp, by kernel_rfl⟩
    | 1 => exact ⟨Str.ofString "b", by simp, by kernel_rfl⟩
    | 2 => exact ⟨Str.ofString "c", by simp, by kernel_rfl⟩
    | 3 => exact ⟨Str.ofString "d", by simp, by kernel_rfl⟩
    | 4 => exact ⟨Str.ofString "e", by simp, by kernel_rfl⟩
    | 5 => exact ⟨Str.ofString "f", by simp, by kernel_rfl⟩
    | 6 => exact ⟨Str.ofString "g", by simp, by kernel_rfl⟩
    | 7 => exact ⟨Str.ofString "h", by simp, by kernel_rfl⟩
  obtain ⟨L, h3, h4⟩ := all ⟨k, hk.2⟩
  exact ⟨L, by rw [hk.1]; exact h4, h3⟩
end FL
namespace FL
open PySem
section
variable {F G : Env → Option D} {ρ : Env} {i j : Int}
theorem int_v (h : F ρ = some (.int i)) : eL intD (aCons F aNil) ρ = some (.int i) := eL_val (aCons_val h rfl) rfl
theorem mod_v (c : Int) (hc : 0 < c) (h : F ρ = some (.int i)) : e2 modD F (eC (.int c)) ρ = some (.int (i % c)) := e2_val h rfl (by unfold modD; simp [hc])
theorem fdiv_v (c : Int) (hc : 0 < c ∧ c < 1073741824) (h : F ρ = some (.int i)) : e2 fdivD F (eC (.int c)) ρ = some (.int (i / c)) := e2_val h rfl (by unfold fdivD; simp [hc])
theorem add_v (h : F ρ = some (.int i)) (h2 : G ρ = some (.int j)) : e2 addD F G ρ = some (.int (i + j)) := e2_val h h2 rfl
theorem sub_v (h : F ρ = some (.int i)) (h2 : G ρ = some (.int j)) : e2 subD F G ρ = some (.int (i - j)) := e2_val h h2 rfl
theorem mul_v (h : F ρ = some (.int i)) (h2 : G ρ = some (.int j)) (hb : (-(2 ^ 64) < i ∧ i < 2 ^ 64) ∨ (-(2 ^ 64) < j ∧ j < 2 ^ 64)) : e2 mulD F G ρ = some (.int (i * j)) := e2_val h h2 (by show (if _ then _ else _) = _; rw [if_pos hb])
theorem gt_v (h : F ρ = some (.int i)) (h2 : G ρ = some (.int j)) : tB blD (e2 gtD F G) ρ = some (decide (j < i)) := tB_val (e2_val h h2 rfl) rfl
theorem ge_v (h : F ρ = some (.int i)) (h2 : G ρ = some (.int j)) : tB blD (e2 geD F G) ρ = some (decide (j ≤ i)) := tB_val (e2_val h h2 rfl) rfl
theorem eq_v (h : F ρ = some (.int i)) (h2 : G ρ = some (.int j)) : e2 eqD F G ρ = some (.bl (i == j)) := e2_val h h2 rfl
theorem teq_v (h : F ρ = some (.int i)) (h2 : G ρ = some (.int j)) : tB blD (e2 eqD F G) ρ = some (i == j) := tB_val (eq_v h h2) rfl
theorem var_v {k : Nat} {d : D} (h : ρ[k]? = some (some d)) : eVar k ρ = some d := by unfold eVar; rw [h]
theorem seq_mut {f : List D → List D → Option (List D)} {Fs : Env → Option (List D)} {k : Nat} {xs ys ds : List D} {G : Env → Option Out} {o : Option Out} (h1 : Fs ρ = some ds) (h2 : ρ[k]? = some (some (.lst xs))) (h3 : f xs ds = some ys) (kk : G (ρ.set k (some (.lst ys))) = o) : sSeq (sMut k f Fs) G ρ = o := by
  unfold sSeq sMut
  rw [h1, var_v h2]
  simp only [h3]
  exact kk
end
/-! ### the draws of a cell -/
def drawsG : FL.Env → Option Out :=
    (sSeq (sSet 2 (eL lstD aNil))
    (sSeq (sSet 3 (eC (.int 0)))
    (sSeq (sIf (tB blD (e2 geD (eVar 0) (e2 powD (eC (.int 10)) (eC (.int 18)))))
      (sSeq (sSet 3 (e2 subD (eVar 0) (e2 powD (eC (.int 10)) (eC (.int 18)))))
    sNil)
      sNil)
    (sSeq (sFor (iRng1 (aCons (eVar 1) aNil)) (gSet 4)
      (sSeq (sSet 5 (e2 modD (eL intD (aCons (e2 addD (e2 addD (eVar 0) (e2 mulD (eC (.int 7919)) (eVar 4))) (eC (.int 13))) aNil)) (eC (.int 2147483647))))
    (sSeq (sSet 5 (e2 modD (eL intD (aCons (e2 addD (e2 mulD (eVar 5) (eVar 5)) (e2 mulD (eC (.int 48271)) (eVar 4))) aNil)) (eC (.int 2147483629))))
    (sSeq (sSet 5 (e2 modD (eL intD (aCons (e2 addD (e2 mulD (eVar 5) (eC (.int 69621))) (e2 fdivD (eVar 5) (eC (.int 1009)))) aNil)) (eC (.int 1000003))))
    (sSeq (sIf (tB blD (e2 gtD (eVar 3) (eC (.int 0))))
      (sSeq (sSet 5 (e2 modD (eL intD (aCons (eVar 3) aNil)) (eC (.int 1000003))))
    (sSeq (sSet 3 (e2 fdivD (eVar 3) (eC (.int 1000003))))
    sNil))
      sNil)
    (sSeq (sMut 2 appendF (aCons (eVar 5) aNil))
    sNil))))))
    (sForget [0, 1, 3, 4, 5] (sSeq (sRet (eVar 2))
    sNil))))))
def drawsM : List D → Option D := runD false 6 2 drawsG
theorem draws_turn {z : Int} {n : D} {acc : List Int} {rest k : Int} {x : Option D} (hacc : acc.length < 1000) :
    ∃ (r' m' : Int), 0 ≤ m' ∧ m' < 1000003 ∧
      (sSeq (sSet 5 (e2 modD (eL intD (aCons (e2 addD (e2 addD (eVar 0) (e2 mulD (eC (.int 7919)) (eVar 4))) (eC (.int 13))) aNil)) (eC (.int 2147483647))))
    (sSeq (sSet 5 (e2 modD (eL intD (aCons (e2 addD (e2 mulD (eVar 5) (eVar 5)) (e2 mulD (eC (.int 48271)) (eVar 4))) aNil)) (eC (.int 2147483629))))
    (sSeq (sSet 5 (e2 modD (eL intD (aCons (e2 addD (e2 mulD (eVar 5) (eC (.int 69621))) (e2 fdivD (eVar 5) (eC (.int 1009)))) aNil)) (eC (.int 1000003))))
    (sSeq (sIf (tB blD (e2 gtD (eVar 3) (eC (.int 0))))
      (sSeq (sSet 5 (e2 modD (eL intD (aCons (eVar 3) aNil)) (eC (.int 1000003))))
    (sSeq (sSet 3 (e2 fdivD (eVar 3) (eC (.int 1000003))))
    sNil))
      sNil)
    (sSeq (sMut 2 appendF (aCons (eVar 5) aNil))
    sNil))))) [some (.int z), some n, some (.lst (acc.map D.int)), some (.int rest), some (.int k), x]
      = some (.nx [some (.int z), some n, some (.lst ((acc ++ [m']).map D.int)), some (.int r'), some (.int k), some (.int m')]) := by
  generalize e1 : (z + 7919 * k + 13) % 2147483647 = m1
  have b1 : 0 ≤ m1 ∧ m1 < 2147483647 := by subst e1; exact ⟨Int.emod_nonneg _ (by decide), Int.emod_lt_of_pos _ (by decide)⟩
  generalize e2' : (m1 * m1 + 48271 * k) % 2147483629 = m2
  have b2 : 0 ≤ m2 ∧ m2 < 2147483629 := by subst e2'; exact ⟨Int.emod_nonneg _ (by decide), Int.emod_lt_of_pos _ (by decide)⟩
  generalize e3 : (m2 * 69621 + m2 / 1009) % 1000003 = m3
  have b3 : 0 ≤ m3 ∧ m3 < 1000003 := by subst e3; exact ⟨Int.emod_nonneg _ (by decide), Int.emod_lt_of_pos _ (by decide)⟩
  have app : ∀ m : Int, appendF (acc.map D.int) [.int m] = some ((acc ++ [m]).map D.int) := fun m => by
    show (if (acc.map D.int).length < sizeLine then some (acc.map D.int ++ [D.int m]) else none) = _
    rw [if_pos (by rw [List.length_map, PySem.sizeLine_eq]; omega)]
    simp
  by_cases hr : 0 < rest
  · refine ⟨rest / 1000003, rest % 1000003, Int.emod_nonneg _ (by decide), Int.emod_lt_of_pos _ (by decide), ?_⟩
    refine seq_set (d := .int m1) (by subst e1; exact mod_v _ (by decide) (int_v (add_v (add_v rfl (mul_v rfl rfl (.inl ⟨by decide, by decide⟩))) rfl))) ?_
    refine seq_set (d := .int m2) (by subst e2'; exact mod_v _ (by decide) (int_v (add_v (mul_v rfl rfl (.inl ⟨by omega, by omega⟩)) (mul_v rfl rfl (.inl ⟨by decide, by decide⟩))))) ?_
    refine seq_set (d := .int m3) (by subst e3; exact mod_v _ (by decide) (int_v (add_v (mul_v rfl rfl (.inl ⟨by omega, by omega⟩)) (fdiv_v _ (by decide) rfl)))) ?_
    refine seq_t ((gt_v rfl rfl).trans (by simp [hr])) ?_
    refine seq_as (seq_set (d := .int (rest % 1000003)) (mod_v _ (by decide) (int_v rfl)) (seq_as (seq_set (d := .int (rest / 1000003)) (fdiv_v _ (by decide) rfl) (seq_nil ?_))))
    exact seq_mut (ds := [.int (rest % 1000003)]) (aCons_val rfl rfl) rfl (app _) rfl
  · refine ⟨rest, m3, b3.1, b3.2, ?_⟩
    refine seq_set (d := .int m1) (by subst e1; exact mod_v _ (by decide) (int_v (add_v (add_v rfl (mul_v rfl rfl (.inl ⟨by decide, by decide⟩))) rfl))) ?_
    refine seq_set (d := .int m2) (by subst e2'; exact mod_v _ (by decide) (int_v (add_v (mul_v rfl rfl (.inl ⟨by omega, by omega⟩)) (mul_v rfl rfl (.inl ⟨by decide, by decide⟩))))) ?_
    refine seq_set (d := .int m3) (by subst e3; exact mod_v _ (by decide) (int_v (add_v (mul_v rfl rfl (.inl ⟨by omega, by omega⟩)) (fdiv_v _ (by decide) rfl)))) ?_
    refine seq_f ((gt_v rfl rfl).trans (by simp [hr])) (seq_nil ?_)
    exact seq_mut (ds := [.int m3]) (aCons_val rfl rfl) rfl (app _) rfl
theorem draws_form (z : Int) (n : Nat) (hn : n < 1000) : ∃ ds : List Int, drawsM [.int z, .int (n : Int)] = some (.lst (ds.map D.int)) ∧ ds.length = n ∧ ∀ d ∈ ds, 0 ≤ d ∧ d < 1000003 := by
  have loop : ∀ rest : Int, ∃ (ds : List Int) (ρ' : FL.Env), loopF (gSet 4) (sSeq (sSet 5 (e2 modD (eL intD (aCons (e2 addD (e2 addD (eVar 0) (e2 mulD (eC (.int 7919)) (eVar 4))) (eC (.int 13))) aNil)) (eC (.int 2147483647))))
    (sSeq (sSet 5 (e2 modD (eL intD (aCons (e2 addD (e2 mulD (eVar 5) (eVar 5)) (e2 mulD (eC (.int 48271)) (eVar 4))) aNil)) (eC (.int 2147483629))))
    (sSeq (sSet 5 (e2 modD (eL intD (aCons (e2 addD (e2 mulD (eVar 5) (eC (.int 69621))) (e2 fdivD (eVar 5) (eC (.int 1009)))) aNil)) (eC (.int 1000003))))
    (sSeq (sIf (tB blD (e2 gtD (eVar 3) (eC (.int 0))))
      (sSeq (sSet 5 (e2 modD (eL intD (aCons (eVar 3) aNil)) (eC (.int 1000003))))
    (sSeq (sSet 3 (e2 fdivD (eVar 3) (eC (.int 1000003))))
    sNil))
      sNil)
    (sSeq (sMut 2 appendF (aCons (eVar 5) aNil))
    sNil))))) (rngD 0 n) [some (.int z), some (.int (n : Int)), some (.lst []), some (.int rest), none, none] = some (.nx ρ') ∧ ds.length = n ∧ (∀ d ∈ ds, 0 ≤ d ∧ d < 1000003) ∧ ∃ r x4 x5, ρ' = [some (.int z), some (.int (n : Int)), some (.lst (ds.map D.int)), some (.int r), x4, x5] := fun rest => by
    obtain ⟨ρ', e, h⟩ := loop_nx (g := gSet 4) (I := fun i ρ => i ≤ n ∧ ∃ (acc : List Int) (r : Int) (x4 x5 : Option D), ρ = [some (.int z), some (.int (n : Int)), some (.lst (acc.map D.int)), some (.int r), x4, x5] ∧ acc.length = i ∧ ∀ d ∈ acc, 0 ≤ d ∧ d < 1000003) (rngD 0 n) 0 [some (.int z), some (.int (n : Int)), some (.lst []), some (.int rest), none, none]
      (fun i ρ d hI hd => by
        obtain ⟨hi0, acc, r, x4, x5, rfl, hl, hb⟩ := hI
        obtain ⟨hi, rfl⟩ := rngD_get hd
        obtain ⟨r', m', h1, h2, h3⟩ := draws_turn (z := z) (n := .int (n : Int)) (acc := acc) (rest := r) (k := 0 + (i : Int)) (x := x5) (by omega)
        refine ⟨_, _, rfl, h3, by omega, acc ++ [m'], r', _, _, rfl, by rw [List.length_append, hl]; simp, fun d hd => ?_⟩
        rcases List.mem_append.mp hd with q | q
        · exact hb d q
        · have : d = m' := by simpa using q
          subst this; exact ⟨h1, h2⟩) ⟨Nat.zero_le _, [], rest, none, none, rfl, rfl, fun _ h => absurd h (by simp)⟩
    obtain ⟨_, acc, r, x4, x5, rfl, hl, hb⟩ := h
    rw [rngD_len, Nat.zero_add] at hl
    exact ⟨acc, _, e, hl, hb, r, x4, x5, rfl⟩
  have hr : iRng1 (aCons (eVar 1) aNil) = fun ρ => iRng1 (aCons (eVar 1) aNil) ρ := rfl
  have rng : ∀ rest : Int, iRng1 (aCons (eVar 1) aNil) [some (.int z), some (.int (n : Int)), some (.lst []), some (.int rest), none, none] = some (rngD 0 n) := fun rest => by
    have hb : -(2 ^ 62 : Int) ≤ (n : Int) ∧ (n : Int) < 2 ^ 62 := by omega
    simp [iRng1, aCons, aNil, eVar]
    omega
  have tail : ∀ rest : Int, ∃ ds : List Int, ((sSeq (sFor (iRng1 (aCons (eVar 1) aNil)) (gSet 4)
      (sSeq (sSet 5 (e2 modD (eL intD (aCons (e2 addD (e2 addD (eVar 0) (e2 mulD (eC (.int 7919)) (eVar 4))) (eC (.int 13))) aNil)) (eC (.int 2147483647))))
    (sSeq (sSet 5 (e2 modD (eL intD (aCons (e2 addD (e2 mulD (eVar 5) (eVar 5)) (e2 mulD (eC (.int 48271)) (eVar 4))) aNil)) (eC (.int 2147483629))))
    (sSeq (sSet 5 (e2 modD (eL intD (aCons (e2 addD (e2 mulD (eVar 5) (eC (.int 69621))) (e2 fdivD (eVar 5) (eC (.int 1009)))) aNil)) (eC (.int 1000003))))
    (sSeq (sIf (tB blD (e2 gtD (eVar 3) (eC (.int 0))))
      (sSeq (sSet 5 (e2 modD (eL intD (aCons (eVar 3) aNil)) (eC (.int 1000003))))
    (sSeq (sSet 3 (e2 fdivD (eVar 3) (eC (.int 1000003))))
    sNil))
      sNil)
    (sSeq (sMut 2 appendF (aCons (eVar 5) aNil))
    sNil))))))
    (sForget [0, 1, 3, 4, 5] (sSeq (sRet (eVar 2))
    sNil)))) [some (.int z), some (.int (n : Int)), some (.lst []), some (.int rest), none, none] = some (.rt (.lst (ds.map D.int))) ∧ ds.length = n ∧ ∀ d ∈ ds, 0 ≤ d ∧ d < 1000003 := fun rest => by
    obtain ⟨ds, ρ', e, hl, hb, r, x4, x5, rfl⟩ := loop rest
    exact ⟨ds, seq_for (rng rest) e (seq_fg (seq_ret rfl)), hl, hb⟩
  by_cases hz : (1000000000000000000 : Int) ≤ z
  · obtain ⟨ds, e, hl, hb⟩ := tail (z - 1000000000000000000)
    refine ⟨ds, runD_rt ?_, hl, hb⟩
    refine seq_set (d := .lst []) (by kernel_rfl) (seq_set (d := .int 0) rfl ?_)
    refine seq_t ((ge_v (i := z) (j := 1000000000000000000) rfl (by kernel_rfl)).trans (by simp [hz])) ?_
    exact seq_as (seq_set (d := .int (z - 1000000000000000000)) (sub_v (i := z) (j := 1000000000000000000) rfl (by kernel_rfl)) (seq_nil e))
  · obtain ⟨ds, e, hl, hb⟩ := tail 0
    refine ⟨ds, runD_rt ?_, hl, hb⟩
    refine seq_set (d := .lst []) (by kernel_rfl) (seq_set (d := .int 0) rfl ?_)
    exact seq_f ((ge_v (i := z) (j := 1000000000000000000) rfl (by kernel_rfl)).trans (by simp [hz])) (seq_nil e)
end FL
namespace FL
open PySem PySem.Spec L2

/-! ### defs that yield -/
def wY (X : Cx) (st : Stmt) : TGn := fun D ys σ H => ∀ (A : Around) (S : Addr) (ip : List (Addr × Obj)) (R : GenEnd) (n : Nat) (s₀ : Shared) (c : Code) (fs : List Frame) (K : Flow → Sem PySem.Fin) (J : Value → Sem PySem.Fin) (gd : Bool → Bool) (lv : List Value → List Value) (s : Shared),
  GC X S ip A c fs gd → n + ys.length = sizeLine → GK X S ip A R c fs K J D → GI X S ip ys σ H s → Seg (model X.prog X.w) A R (GY X S) n s₀ c ((exec st X.env).wrap K J gd lv) fs s
def wYs (X : Cx) (st : List Stmt) : TGn := fun D ys σ H => ∀ (A : Around) (S : Addr) (ip : List (Addr × Obj)) (R : GenEnd) (n : Nat) (s₀ : Shared) (c : Code) (fs : List Frame) (K : Flow → Sem PySem.Fin) (J : Value → Sem PySem.Fin) (gd : Bool → Bool) (lv : List Value → List Value) (s : Shared),
  GC X S ip A c fs gd → n + ys.length = sizeLine → GK X S ip A R c fs K J D → GI X S ip ys σ H s → Seg (model X.prog X.w) A R (GY X S) n s₀ c ((execs st X.env).wrap K J gd lv) fs s
section
variable {X : Cx} {st : Stmt} {sts : List Stmt} {ys : List V} {σ : L2.St} {H : Hp} {D : GEnds}
theorem gsW : GS X st (wY X st) := ⟨fun A S ip R n ys s₀ c fs K J gd lv s σ H D g hn k hI ht => ht A S ip R n s₀ c fs K J gd lv s g hn k hI⟩
theorem gssW : GSs X sts (wYs X sts) := ⟨fun A S ip R n ys s₀ c fs K J gd lv s σ H D g hn k hI ht => ht A S ip R n s₀ c fs K J gd lv s g hn k hI⟩
theorem toY {t : TGn} (h : GS X st t) (q : t D ys σ H) : wY X st D ys σ H := fun A S ip R n s₀ c fs K J gd lv s g hn k hI => h.run A S ip R n ys s₀ c fs K J gd lv s σ H D g hn k hI q
theorem toYs {t : TGn} (h : GSs X sts t) (q : t D ys σ H) : wYs X sts D ys σ H := fun A S ip R n s₀ c fs K J gd lv s g hn k hI => h.run A S ip R n ys s₀ c fs K J gd lv s σ H D g hn k hI q
def tGIf (tc : TT) (t u : TGn) : TGn := fun D ys σ H => tc σ H fun b H1 => if b = true then t D ys σ H1 else u D ys σ H1
theorem gs_if {c : Expr} {a b : List Stmt} {pos : Pos} {tc : TT} {t u : TGn} (hc : PT X c tc) (ha : GSs X a t) (hb : GSs X b u) : GS X (.If c a b pos) (tGIf tc t u) := by
  refine ⟨fun A S ip R n ys s₀ c' fs K J gd lv s σ H D g hn k hI ht => ?_⟩
  show Seg _ _ _ _ n s₀ c' (.at pos fun _ => (isTrue c X.env (eval c X.env) >>= fun b' => if b' = true then execs a X.env else execs b X.env).wrap K J gd lv) fs s
  refine seg_at ?_
  obtain ⟨acc, cc, r, I⟩ := hI
  refine seg_bind_wrap ?_
  rw [g.over]
  refine wpAny_mono (hc.run _ s σ H _ I ht) (fun d s1 hd => ?_) fun x s' hx => k.exc n s₀ x s' hx
  obtain ⟨H1, I1, q⟩ := hd
  cases d with
  | true => exact ha.run A S ip R n ys s₀ c' fs K J gd lv s1 σ H1 D g hn k ⟨acc, cc, r, I1⟩ q
  | false => exact hb.run A S ip R n ys s₀ c' fs K J gd lv s1 σ H1 D g hn k ⟨acc, cc, r, I1⟩ q
end
/-- acc: what is out so far -/
inductive GO where
  | nx (acc : List D) (ρ : Env) | rt (acc : List D)
def GPost (K : PySem.W.Frag) (φ : Nat → Addr) (Hf0 H0 : Hp) (O : List Nat) (Hf : Hp) (Dn : GEnds) : GO → Prop
  | .nx acc ρ => ∀ σ' Hf' H' zs, Same Hf Hf' → SR K φ Hf0 H0 O ρ σ' Hf' H' → RpAll K φ Hf' acc zs → Dn.nx zs σ' H'
  | .rt acc => ∀ Hf' H' zs, Gr Hf0 H0 Hf' H' → RpAll K φ Hf' acc zs → Dn.rt zs .non H'
theorem GPost.mono {K : PySem.W.Frag} {φ : Nat → Addr} {Hf0 H0 : Hp} {O : List Nat} {Hf Hf1 : Hp} {Dn : GEnds} (s : Same Hf Hf1) : ∀ {out : GO}, GPost K φ Hf0 H0 O Hf Dn out → GPost K φ Hf0 H0 O Hf1 Dn out
  | .nx _ _, h => fun σ' Hf' H' zs s' => h σ' Hf' H' zs (s.trans s')
  | .rt _, h => h
def FY (X : Cx) (O O' : List Nat) (st : Stmt) (G : List D → Env → Option GO) : Prop :=
  ∀ (φ : Nat → Addr) (Hf0 H0 : Hp) (ρ : Env) (σ : L2.St) (Hf H : Hp) (acc : List D) (zs : List V) (out : GO) (Dn : GEnds), SR X.K φ Hf0 H0 O ρ σ Hf H → RpAll X.K φ Hf acc zs → G acc ρ = some out → GPost X.K φ Hf0 H0 O' Hf Dn out → wY X st Dn zs σ H
def FYs (X : Cx) (O O' : List Nat) (sts : List Stmt) (G : List D → Env → Option GO) : Prop :=
  ∀ (φ : Nat → Addr) (Hf0 H0 : Hp) (ρ : Env) (σ : L2.St) (Hf H : Hp) (acc : List D) (zs : List V) (out : GO) (Dn : GEnds), SR X.K φ Hf0 H0 O ρ σ Hf H → RpAll X.K φ Hf acc zs → G acc ρ = some out → GPost X.K φ Hf0 H0 O' Hf Dn out → wYs X sts Dn zs σ H
def yNil : List D → Env → Option GO := fun acc ρ => some (.nx acc ρ)
def yRet : List D → Env → Option GO := fun acc ρ => some (.rt acc)
def ySeq (F G : List D → Env → Option GO) : List D → Env → Option GO := fun acc ρ => match F acc ρ with | some (.nx acc' ρ') => G acc' ρ' | o => o
def yPl (F : Env → Option Out) : List D → Env → Option GO := fun acc ρ => match F ρ with | some (.nx ρ') => some (.nx acc ρ') | _ => none
def yOut (F : Env → Option D) : List D → Env → Option GO := fun acc ρ => match F ρ with | some d => if acc.length < sizeLine then some (.nx (acc ++ [d]) ρ) else none | none => none
def yIf (C : Env → Option Bool) (F G : List D → Env → Option GO) : List D → Env → Option GO := fun acc ρ => match C ρ with | some true => F acc ρ | some false => G acc ρ | none => none
section
variable {X : Cx} {O O' O1 : List Nat} {st : Stmt} {sts : List Stmt} {e : Expr} {pos yp : Pos} {F : Env → Option D} {G G2 : List D → Env → Option GO}
theorem fys_nil : FYs X O O [] yNil := fun φ Hf0 H0 ρ σ Hf H acc zs out Dn S r h P => by
  cases h
  exact toYs gss_nil (P σ Hf H zs (Same.refl _) S r)
theorem fys_cons (h : FY X O O1 st G) (t : FYs X O1 O' sts G2) : FYs X O O' (st :: sts) (ySeq G G2) := fun φ Hf0 H0 ρ σ Hf H acc zs out Dn S r hF P => by
  refine toYs (gss_cons gsW gssW) ?_
  unfold ySeq at hF
  split at hF
  · rename_i acc' ρ' h1
    exact h φ Hf0 H0 ρ σ Hf H acc zs _ _ S r h1 fun σ1 Hf1 H1 zs1 s1 S1 r1 => t φ Hf0 H0 ρ' σ1 Hf1 H1 acc' zs1 out Dn S1 r1 hF (P.mono s1)
  · rename_i hne
    refine h φ Hf0 H0 ρ σ Hf H acc zs out _ S r hF ?_
    cases out with
    | nx a ρ' => exact absurd hF (hne a ρ')
    | rt a => exact P
/-- forget that lists are our own, behind a block -/
theorem fys_to (h : FYs X O O1 sts G) (hL : O'.all (O1.contains ·) = true) : FYs X O O' sts G := fun φ Hf0 H0 ρ σ Hf H acc zs out Dn S r hF P => by
  refine h φ Hf0 H0 ρ σ Hf H acc zs out Dn S r hF ?_
  cases out with
  | nx a ρ' => exact fun σ' Hf' H' zs' s' S' r' => let ⟨Hf2, s2, S2⟩ := S'.weak O' hL; P σ' Hf2 H' zs' (s'.trans s2) S2 (RpAll.mono s2 r')
  | rt a => exact P
/-- a statement that hands out nothing and goes on -/
theorem fy_plain {F : Env → Option Out} (h : FS X false [] O O' st F) : FY X O O' st (yPl F) := fun φ Hf0 H0 ρ σ Hf H acc zs out Dn S r hF P => by
  refine toY (gs_ps psW) ?_
  unfold yPl at hF
  split at hF
  · rename_i ρ' h1
    cases hF
    exact h φ Hf0 H0 ρ σ Hf H _ (Dn.at zs) S h1 fun σ1 Hf1 H1 s1 S1 => P σ1 Hf1 H1 zs s1 S1 (RpAll.mono s1 r)
  · cases hF
theorem fy_ret : FY X O O' (.Return none pos) yRet := fun φ Hf0 H0 ρ σ Hf H acc zs out Dn S r hF P => by
  cases hF
  exact toY (gs_ps ps_retN) (P Hf H zs S.from0 r)
theorem fy_yield (h : FE X O e F) (hco : X.env.scope.isCoroutine = false := by rfl) (hi : interactive X.env = false := by rfl) : FY X O O (.Expr (.Yield (some e) yp) pos) (yOut F) := fun φ Hf0 H0 ρ σ Hf H acc zs out Dn S r hF P => by
  refine toY (gs_yield peW hco hi) ?_
  unfold yOut at hF
  split at hF
  · rename_i d h1
    split at hF
    · rename_i hl
      cases hF
      refine ⟨by rw [← r.length]; exact hl, ?_⟩
      exact h φ Hf0 H0 ρ σ Hf H d _ S h1 fun v Hf1 H1 g1 r1 => P σ Hf1 H1 (zs ++ [v]) g1.f (S.gr g1) ((r.mono g1.f).append (.one r1))
    · cases hF
  · cases hF
theorem fy_if {c : Expr} {T : Env → Option Bool} {a b : List Stmt} (h : FT X O c T) (h1 : FYs X O O' a G) (h2 : FYs X O O' b G2) : FY X O O' (.If c a b pos) (yIf T G G2) := fun φ Hf0 H0 ρ σ Hf H acc zs out Dn S r hF P => by
  refine toY (gs_if ptW gssW gssW) ?_
  unfold yIf at hF
  split at hF
  · rename_i hb
    exact h φ Hf0 H0 ρ σ Hf H true _ S hb fun Hf1 H1 g1 => iteT (h1 φ Hf0 H0 ρ σ Hf1 H1 acc zs out Dn (S.gr g1) (r.mono g1.f) hF (P.mono g1.f))
  · rename_i hb
    exact h φ Hf0 H0 ρ σ Hf H false _ S hb fun Hf1 H1 g1 => iteF (h2 φ Hf0 H0 ρ σ Hf1 H1 acc zs out Dn (S.gr g1) (r.mono g1.f) hF (P.mono g1.f))
  · cases hF
end
/-- the promise of a def that yields: m, its mirror, the list of all -/
def spY (K : PySem.W.Frag) (n : Nat) (m : List D → Option (List D)) : SpG := fun vs H Q _ => ∃ (φ : Nat → Addr) (Hf : Hp) (ds out : List D), Same Hf H ∧ RpAll K φ Hf ds vs ∧ ds.length = n ∧ m ds = some out ∧ ∀ Hf' H' zs, Gr Hf H Hf' H' → RpAll K φ Hf' out zs → Q zs H'
def runY (N n : Nat) (G : List D → Env → Option GO) (ds : List D) : Option (List D) := match G [] (envOf N n ds) with
  | some (.nx acc _) => some acc
  | some (.rt acc) => some acc
  | none => none
structure CalY (P : Program) (w : World) (K : PySem.W.Frag) (mg : Str → Option Value) (base : Heap) (k : Nat) (x : Str) (n : Nat) (m : List D → Option (List D)) : Prop where
  ok : ∃ (f : Addr) (fd : FuncData) (ps : List Str), GFn P w K mg base k f fd ps (spY K n m) ∧ mg x = some (.ref f) ∧ PySem.W.keepIn K (.ref f) = true ∧ Binds K fd ps []
section
variable {P : Program} {w : World} {K : PySem.W.Frag} {mg : Str → Option Value} {base : Heap} {k : Nat} {a : Addr} {ps N : List Str} {x : Str} {st : Stmt} {G : List D → Env → Option GO}
theorem calY_of {N' n : Nat} (Dd : DefAt K x st a) (g : mg x = some (.ref a)) (S : GScope N ps (defScope st)) (hN : N' = N.length) (hn : n = ps.length)
    (hbind : ∀ (kV doc pm : Value) (an : Option Addr) (cdv ct : Value) (us : List Value), us.length = ps.length → bindArgs (PySem.W.fnOf x x (defArgs st) (defBody st) (defScope st) .none kV doc pm an cdv ct) ⟨us, []⟩ = pure (ps.zip us))
    (O' : List Nat)
    (hb : ∀ (cdv : Value) (A : Around) (outer : List PySem.Env) (s : Shared) (H : Hp) (E : XK) (pn : List (Addr × Obj)), Room k (A.deeper (PyProof.Rows.envOfC x (defScope st) s.heap.objs.size a cdv)) →
      FYs (gcxOf P w K mg base N x (defScope st) a cdv A outer s H E pn) [] O' (defBody st) G) : CalY P w K mg base (k + 1) x n (runY N' n G) := by
  subst hN hn
  obtain ⟨fd, F⟩ := Dd
  have bN := FunD.bindsN F hbind
  obtain ⟨oc, od, dV, kV, doc, pm, an, cdv, ct, osl, rfl, lk, hcd, _, _⟩ := F.ex
  refine ⟨a, _, ps, gfn_of lk hcd S (fun vs H Q E h => ?_) (fun A outer s H vs Q E pn hr h => ?_), g, F.kp, bN⟩
  · obtain ⟨φ, Hf, ds, out, _, r, hl, _⟩ := h
    rw [← r.length]; exact hl
  · obtain ⟨φ, Hf, ds, out, hs, r, hl, hm, hk⟩ := h
    refine ⟨_, gssW, ?_⟩
    have hvl : vs.length = ps.length := by rw [← r.length]; exact hl
    unfold L2.start
    rw [hvl]
    unfold runY envOf at hm
    have S0 : SR K φ Hf H [] (ds.map some ++ List.replicate (N.length - ps.length) none) (vs.map some ++ List.replicate (N.length - ps.length) none) Hf H :=
      ⟨by simp [r.length], hs, Same.refl _, Same.refl _, fun _ _ _ z => z, fun i d e _ => r.val _ i d e, fun i d _ m => absurd m (by simp), fun i j _ _ _ _ _ m => absurd m (by simp)⟩
    split at hm
    · rename_i acc ρ' h'
      cases hm
      exact hb cdv A outer s H E pn hr φ Hf H _ _ Hf H [] [] _ _ S0 .nil h' fun σ' Hf' H' zs s' S' r' => hk Hf' H' zs S'.from0 r'
    · rename_i acc h'
      cases hm
      exact hb cdv A outer s H E pn hr φ Hf H _ _ Hf H [] [] _ _ S0 .nil h' fun Hf' H' zs g' r' => ⟨rfl, hk Hf' H' zs g' r'⟩
    · cases hm
end
section
variable {X : Cx} {O : List Nat} {es : List Expr} {e : Expr} {x nm : Str} {p p2 pos pos' : Pos} {Fs : Env → Option (List D)} {k j : Nat} {n : Nat} {m : List D → Option (List D)}
def mLY (n : Nat) (m : List D → Option (List D)) : List D → Option D := fun ds => if ds.length = n then (match m ds with | some out => some (.lst out) | none => none) else none
/-- list(x(..)), x a def that yields -/
theorem fn_listY (c : CalY X.prog X.w X.K X.mg X.base j x n m) (hr : Room k X.A) (hk : j + 3 ≤ k) (hg : Gl X x) (ha : FA X O (e :: es) Fs) (hgl : Gl X nm) (hmg : X.mg nm = none) (hv : bootBuiltins nm = some (.type "list")) (hnm : nm ≠ "__name__" := by decide) (hdn : (nm == ("__debug__" : Str)) = false := by decide)
    (hdb : (x == ("__debug__" : Str)) = false := by decide) (he : starEach (e :: es) X.env = (false, eval e X.env) :: starEach es X.env := by rfl)
    (hpl : (backTo pos' (starEach es X.env)).any (·.1) = false := by rfl) (he2 : starEach [.Call (.Name x p) (e :: es) [] pos'] X.env = (false, eval (.Call (.Name x p) (e :: es) [] pos') X.env) :: starEach [] X.env := by rfl) :
    FN X O (.Call (.Name nm p2) [.Call (.Name x p) (e :: es) [] pos'] [] pos) (eL (mLY n m) Fs) := by
  obtain ⟨f, fd, ps, F, hm, hkp, hb⟩ := c.ok
  intro φ Hf0 H0 ρ σ Hf H d Q S hF k'
  obtain ⟨ds, h1, h2⟩ := eL_some hF
  unfold mLY at h2
  split at h2
  · rename_i hl
    split at h2
    · rename_i out ho
      cases h2
      have hx : Passes (CX X.prog X.w) X (fun _ _ _ => False) := fun pins σ H s e s' I h => by
        obtain ⟨a, B, H', cls, d, _, _, _, _, _, _, _, z⟩ := h
        exact z.elim
      refine toE (pe_listG (k := j) (E := fun _ _ _ => False) (pgen_call F (hr.mono (by omega)) hg hm hkp hb .nil paW hdb he hpl) hx (fun _ _ _ z => z.elim) (hr.mono hk) hgl hmg hv hnm hdn he2) ?_
      refine ha φ Hf0 H0 ρ σ Hf H ds _ S h1 fun vs Hf1 H1 g1 r1 => ?_
      refine ⟨φ, Hf1, ds, out, g1.s, by rw [List.append_nil]; exact r1, hl, ho, fun Hf2 H2 zs g2 r2 q hq => ?_⟩
      have g3 : Gr Hf2 H2 Hf2 (upd H2 q (.lst zs)) := .own g2.s hq
      exact k' q out zs Hf2 _ rfl ((g1.trans g2).trans g3) ((g1.trans g2).h.free hq) (g2.s.free hq) upd_same r2
    · cases h2
  · cases h2
end
end FL
namespace LW
open PySem PySem.Spec L2 FL
local macro_rules | `(tactic| walk_at "VIS") => `(tactic| first | exact Or.inl rfl | exact Or.inr (Or.inl rfl) | exact Or.inr (Or.inr rfl))
local macro_rules | `(tactic| walk_at "LOC") => `(tactic| first | exact Or.inl rfl | exact Or.inr rfl)
def top (i : Nat) : Stmt := PySem.Challenge.pw_lyingstandins_k06_way.main.body.getD i (.Pass ⟨0, 0, 0, 0⟩)
abbrev s__can_replace : Stmt := top 1
abbrev N__can_replace : List Str := ["old", "new"]
theorem sc__can_replace : FnScope N__can_replace ["old", "new"] (defScope s__can_replace) := ⟨rfl, rfl, rfl, by decide +kernel, rfl, by decide +kernel, by decide +kernel⟩
abbrev s_can_pass : Stmt := top 2
abbrev N_can_pass : List Str := ["before", "after", "old", "shut_before", "new", "shut_after"]
theorem sc_can_pass : FnScope N_can_pass ["before", "after"] (defScope s_can_pass) := ⟨rfl, rfl, rfl, by decide +kernel, rfl, by decide +kernel, by decide +kernel⟩
abbrev s_way : Stmt := top 3
abbrev N_way : List Str := ["before", "after", "old", "shut_before", "new", "shut_after"]
theorem sc_way : GScope N_way ["before", "after"] (defScope s_way) := ⟨rfl, rfl, rfl, by decide +kernel, rfl, by decide +kernel, by decide +kernel⟩
abbrev s__law_cell : Stmt := top 5
abbrev N__law_cell : List Str := ["_law_script", "_law_k"]
theorem sc__law_cell : FnScope N__law_cell ["_law_script", "_law_k"] (defScope s__law_cell) := ⟨rfl, rfl, rfl, by decide +kernel, rfl, by decide +kernel, by decide +kernel⟩
abbrev s__law_defines : Stmt := top 6
abbrev N__law_defines : List Str := ["_law_old", "_law_shut", "_law_new"]
theorem sc__law_defines : FnScope N__law_defines ["_law_old", "_law_shut", "_law_new"] (defScope s__law_defines) := ⟨rfl, rfl, rfl, by decide +kernel, rfl, by decide +kernel, by decide +kernel⟩
abbrev s__law_act : Stmt := top 7
abbrev N__law_act : List Str := ["_law_field", "_law_shut", "_law_request", "_law_kind", "_law_new"]
theorem sc__law_act : FnScope N__law_act ["_law_field", "_law_shut", "_law_request"] (defScope s__law_act) := ⟨rfl, rfl, rfl, by decide +kernel, rfl, by decide +kernel, by decide +kernel⟩
abbrev s__law_passes : Stmt := top 8
abbrev N__law_passes : List Str := ["_law_before", "_law_after"]
theorem sc__law_passes : FnScope N__law_passes ["_law_before", "_law_after"] (defScope s__law_passes) := ⟨rfl, rfl, rfl, by decide +kernel, rfl, by decide +kernel, by decide +kernel⟩
abbrev s__law_spot : Stmt := top 9
abbrev N__law_spot : List Str := ["_law_draw", "_law_part", "_law_field"]
theorem sc__law_spot : FnScope N__law_spot ["_law_draw"] (defScope s__law_spot) := ⟨rfl, rfl, rfl, by decide +kernel, rfl, by decide +kernel, by decide +kernel⟩
abbrev s__law_is_same : Stmt := top 10
abbrev N__law_is_same : List Str := ["_law_got", "_law_due", "_law_k"]
theorem sc__law_is_same : FnScope N__law_is_same ["_law_got", "_law_due"] (defScope s__law_is_same) := ⟨rfl, rfl, rfl, by decide +kernel, rfl, by decide +kernel, by decide +kernel⟩
abbrev s_law : Stmt := top 11
abbrev N_law : List Str := ["_law_script", "_law_place", "_law_other", "_law_choice", "_law_requests", "_law_due", "_law_end", "_law_request", "_law_done"]
theorem sc_law : FnScope N_law ["_law_script"] (defScope s_law) := ⟨rfl, rfl, rfl, by decide +kernel, rfl, by decide +kernel, by decide +kernel⟩
/-! ### the mirrors -/
def G__can_replace : FL.Env → Option Out :=
    (sSeq (sRet (eOr (e2 ixD (eVar 0) (eC (.int 2))) (eAnd (e1 notD (e2 ixD (eVar 1) (eC (.int 2)))) (eOr (e2 ixD (eVar 0) (eC (.int 1))) (e2 eqD (eVar 0) (eVar 1))))))
    sNil)
def m__can_replace : List D → Option D := runD false 2 2 G__can_replace
def G_can_pass : FL.Env → Option Out :=
    (sSeq (sAsg (gTup (gCons (gSet 2) (gCons (gSet 3) gNil))) (eVar 0))
    (sForget [0] (sSeq (sAsg (gTup (gCons (gSet 4) (gCons (gSet 5) gNil))) (eVar 1))
    (sForget [1] (sSeq (sIf (tAnd (tB truD (eVar 3)) (tNot (tB truD (eVar 5))))
      (sSeq (sRet (eC (.bl false)))
    sNil)
      sNil)
    (sForget [5] (sSeq (sIf (tB blD (e2 eqD (eVar 2) (eVar 4)))
      (sSeq (sRet (eC (.bl true)))
    sNil)
      sNil)
    (sSeq (sIf (tB blD (e2 isD (eVar 2) (eC .non)))
      (sSeq (sRet (e1 notD (eVar 3)))
    sNil)
      sNil)
    (sForget [3] (sSeq (sIf (tB blD (e2 isD (eVar 4) (eC .non)))
      (sSeq (sRet (e2 ixD (eVar 2) (eC (.int 2))))
    sNil)
      sNil)
    (sSeq (sRet (eL (mL 2 m__can_replace) (aCons (eVar 2) (aCons (eVar 4) aNil))))
    sNil)))))))))))
def m_can_pass : List D → Option D := runD false 6 2 G_can_pass
def G_way : List D → FL.Env → Option GO :=
    (ySeq (yIf (tNot (tB truD (eL (mL 2 m_can_pass) (aCons (eVar 0) (aCons (eVar 1) aNil)))))
      (ySeq yRet
    yNil)
      yNil)
    (ySeq (yPl (sAsg (gTup (gCons (gSet 2) (gCons (gSet 3) gNil))) (eVar 0)))
    (ySeq (yPl (sAsg (gTup (gCons (gSet 4) (gCons (gSet 5) gNil))) (eVar 1)))
    (ySeq (yIf (tB blD (e2 neD (eVar 2) (eVar 4)))
      (ySeq (yIf (tB blD (e2 isD (eVar 4) (eC .non)))
      (ySeq (yOut (eL tupD (aCons (eC (.str "take")) (aCons (eC (.str "a")) aNil))))
    yNil)
      (ySeq (yOut (eL tupD (aCons (eC (.str "define")) (aCons (eC (.str "a")) (aStar (eVar 4) aNil)))))
    yNil))
    yNil)
      yNil)
    (ySeq (yIf (tAnd (tB truD (eVar 5)) (tNot (tB truD (eVar 3))))
      (ySeq (yOut (eL tupD (aCons (eC (.str "shut")) aNil)))
    yNil)
      yNil)
    yNil)))))
def m_way : List D → Option (List D) := runY 6 2 G_way
def G__law_cell : FL.Env → Option Out :=
    (sSeq (sIf (tB blD (e2 ltD (eVar 1) (eL lenD (aCons (eVar 0) aNil))))
      (sSeq (sRet (eL intD (aCons (e2 ixD (eVar 0) (eVar 1)) aNil)))
    sNil)
      sNil)
    (sForget [0, 1] (sSeq (sRet (eC (.int 0)))
    sNil)))
def m__law_cell : List D → Option D := runD false 2 2 G__law_cell
def G__law_defines : FL.Env → Option Out :=
    (sSeq (sIf (tB blD (e2 isD (eVar 0) (eC .non)))
      (sSeq (sRet (e1 notD (eVar 1)))
    sNil)
      sNil)
    (sForget [1] (sSeq (sIf (tB truD (e2 ixD (eVar 0) (eC (.int 2))))
      (sSeq (sRet (eC (.bl true)))
    sNil)
      sNil)
    (sSeq (sRet (eAnd (e1 notD (e2 ixD (eVar 2) (eC (.int 2)))) (eOr (e2 ixD (eVar 0) (eC (.int 1))) (e2 eqD (eVar 0) (eVar 2)))))
    sNil))))
def m__law_defines : List D → Option D := runD false 3 3 G__law_defines
def G__law_act : FL.Env → Option Out :=
    (sSeq (sSet 3 (e2 ixD (eVar 2) (eC (.int 0))))
    (sSeq (sIf (tB blD (e2 eqD (eVar 3) (eC (.str "look"))))
      (sSeq (sRet (eL lstD (aCons (eVar 0) (aCons (eVar 0) (aCons (eVar 1) aNil)))))
    sNil)
      sNil)
    (sSeq (sIf (tB blD (e2 eqD (eVar 3) (eC (.str "has"))))
      (sSeq (sRet (eL lstD (aCons (e2 isntD (eVar 0) (eC .non)) (aCons (eVar 0) (aCons (eVar 1) aNil)))))
    sNil)
      sNil)
    (sSeq (sIf (tB blD (e2 eqD (eVar 3) (eC (.str "get"))))
      (sSeq (sIf (tB blD (e2 isD (eVar 0) (eC .non)))
      (sSeq (sRet (eL lstD (aCons (eC .non) (aCons (eVar 0) (aCons (eVar 1) aNil)))))
    sNil)
      sNil)
    (sSeq (sRet (eL lstD (aCons (e2 ixD (eVar 0) (eC (.int 0))) (aCons (eVar 0) (aCons (eVar 1) aNil)))))
    sNil))
      sNil)
    (sSeq (sIf (tB blD (e2 eqD (eVar 3) (eC (.str "shut"))))
      (sSeq (sRet (eL lstD (aCons (eC (.bl true)) (aCons (eVar 0) (aCons (eC (.bl true)) aNil)))))
    sNil)
      sNil)
    (sSeq (sIf (tB blD (e2 eqD (eVar 3) (eC (.str "isshut"))))
      (sSeq (sRet (eL lstD (aCons (eVar 1) (aCons (eVar 0) (aCons (eVar 1) aNil)))))
    sNil)
      sNil)
    (sSeq (sIf (tB blD (e2 eqD (eVar 3) (eC (.str "take"))))
      (sSeq (sIf (tAnd (tB blD (e2 isntD (eVar 0) (eC .non))) (tNot (tB truD (e2 ixD (eVar 0) (eC (.int 2))))))
      (sSeq (sRet (eL lstD (aCons (eC (.bl false)) (aCons (eVar 0) (aCons (eVar 1) aNil)))))
    sNil)
      sNil)
    (sSeq (sRet (eL lstD (aCons (eC (.bl true)) (aCons (eC .non) (aCons (eVar 1) aNil)))))
    sNil))
      sNil)
    (sSeq (sIf (tB blD (e2 eqD (eVar 3) (eC (.str "set"))))
      (sSeq (sIf (tAnd (tB blD (e2 isD (eVar 0) (eC .non))) (tNot (tB truD (eVar 1))))
      (sSeq (sRet (eL lstD (aCons (eC (.bl true)) (aCons (eL tupD (aCons (e2 ixD (eVar 2) (eC (.int 2))) (aCons (eC (.bl true)) (aCons (eC (.bl true)) aNil)))) (aCons (eVar 1) aNil)))))
    sNil)
      sNil)
    (sSeq (sIf (tAnd (tB blD (e2 isntD (eVar 0) (eC .non))) (tB truD (e2 ixD (eVar 0) (eC (.int 1)))))
      (sSeq (sRet (eL lstD (aCons (eC (.bl true)) (aCons (eL tupD (aCons (e2 ixD (eVar 2) (eC (.int 2))) (aCons (eC (.bl true)) (aCons (e2 ixD (eVar 0) (eC (.int 2))) aNil)))) (aCons (eVar 1) aNil)))))
    sNil)
      sNil)
    (sSeq (sRet (eL lstD (aCons (eC (.bl false)) (aCons (eVar 0) (aCons (eVar 1) aNil)))))
    sNil)))
      sNil)
    (sForget [3] (sSeq (sSet 4 (eL tupD (aCons (e2 ixD (eVar 2) (eC (.int 2))) (aCons (e2 ixD (eVar 2) (eC (.int 3))) (aCons (e2 ixD (eVar 2) (eC (.int 4))) aNil)))))
    (sForget [2] (sSeq (sIf (tB truD (eL (mL 3 m__law_defines) (aCons (eVar 0) (aCons (eVar 1) (aCons (eVar 4) aNil)))))
      (sSeq (sRet (eL lstD (aCons (eC (.bl true)) (aCons (eVar 4) (aCons (eVar 1) aNil)))))
    sNil)
      sNil)
    (sForget [4] (sSeq (sRet (eL lstD (aCons (eC (.bl false)) (aCons (eVar 0) (aCons (eVar 1) aNil)))))
    sNil))))))))))))))
def m__law_act : List D → Option D := runD false 5 3 G__law_act
def G__law_passes : FL.Env → Option Out :=
    (sSeq (sIf (tAnd (tB truD (e2 ixD (eVar 0) (eC (.int 1)))) (tNot (tB truD (e2 ixD (eVar 1) (eC (.int 1))))))
      (sSeq (sRet (eC (.bl false)))
    sNil)
      sNil)
    (sSeq (sIf (tB blD (e2 eqD (e2 ixD (eVar 0) (eC (.int 0))) (e2 ixD (eVar 1) (eC (.int 0)))))
      (sSeq (sRet (eC (.bl true)))
    sNil)
      sNil)
    (sSeq (sIf (tB blD (e2 isD (e2 ixD (eVar 1) (eC (.int 0))) (eC .non)))
      (sSeq (sRet (e2 ixD (e2 ixD (eVar 0) (eC (.int 0))) (eC (.int 2))))
    sNil)
      sNil)
    (sSeq (sRet (eL (mL 3 m__law_defines) (aCons (e2 ixD (eVar 0) (eC (.int 0))) (aCons (e2 ixD (eVar 0) (eC (.int 1))) (aCons (e2 ixD (eVar 1) (eC (.int 0))) aNil)))))
    sNil))))
def m__law_passes : List D → Option D := runD false 2 2 G__law_passes
def G__law_spot : FL.Env → Option Out :=
    (sSeq (sSet 1 (e2 modD (eL intD (aCons (eVar 0) aNil)) (eC (.int 200))))
    (sForget [0] (sSeq (sSet 2 (eL tupD (aCons (e2 modD (e2 fdivD (eVar 1) (eC (.int 2))) (eC (.int 10))) (aCons (e2 eqD (e2 modD (e2 fdivD (eVar 1) (eC (.int 20))) (eC (.int 2))) (eC (.int 1))) (aCons (e2 eqD (e2 modD (e2 fdivD (eVar 1) (eC (.int 40))) (eC (.int 2))) (eC (.int 1))) aNil)))))
    (sSeq (sIf (tB blD (e2 eqD (e2 fdivD (eVar 1) (eC (.int 80))) (eC (.int 2))))
      (sSeq (sSet 2 (eC .non))
    sNil)
      sNil)
    (sSeq (sRet (eL tupD (aCons (eVar 2) (aCons (e2 eqD (e2 modD (eVar 1) (eC (.int 2))) (eC (.int 1))) aNil))))
    sNil)))))
def m__law_spot : List D → Option D := runD false 3 1 G__law_spot
def G__law_is_same (r : List D → Option D) : FL.Env → Option Out :=
    (sSeq (sIf (tOr (tB truD (e1 (isiD "tuple") (eVar 1))) (tB truD (e1 (isiD "list") (eVar 1))))
      (sSeq (sIf (tAnd (tB truD (e1 (isiD "tuple") (eVar 1))) (tNot (tB truD (e1 (isiD "tuple") (eVar 0)))))
      (sSeq (sRet (eC (.bl false)))
    sNil)
      sNil)
    (sSeq (sIf (tAnd (tB truD (e1 (isiD "list") (eVar 1))) (tNot (tB truD (e1 (isiD "list") (eVar 0)))))
      (sSeq (sRet (eC (.bl false)))
    sNil)
      sNil)
    (sSeq (sIf (tB blD (e2 neD (eL lenD (aCons (eVar 0) aNil)) (eL lenD (aCons (eVar 1) aNil))))
      (sSeq (sRet (eC (.bl false)))
    sNil)
      sNil)
    (sSeq (sFor (iRng1 (aCons (eL lenD (aCons (eVar 1) aNil)) aNil)) (gSet 2)
      (sSeq (sIf (tNot (tB truD (eL (mL 2 r) (aCons (e2 ixD (eVar 0) (eVar 2)) (aCons (e2 ixD (eVar 1) (eVar 2)) aNil)))))
      (sSeq (sRet (eC (.bl false)))
    sNil)
      sNil)
    sNil))
    (sSeq (sRet (eC (.bl true)))
    sNil)))))
      sNil)
    (sForget [2] (sSeq (sIf (tB blD (e2 isD (eVar 1) (eC .non)))
      (sSeq (sRet (e2 isD (eVar 0) (eC .non)))
    sNil)
      sNil)
    (sSeq (sIf (tB truD (e1 (isiD "bool") (eVar 1)))
      (sSeq (sRet (eAnd (e1 (isiD "bool") (eVar 0)) (e2 eqD (eVar 0) (eVar 1))))
    sNil)
      sNil)
    (sSeq (sIf (tB truD (e1 (isiD "int") (eVar 1)))
      (sSeq (sRet (eAnd (e1 (isiD "int") (eVar 0)) (eAnd (e1 notD (e1 (isiD "bool") (eVar 0))) (e2 eqD (eVar 0) (eVar 1)))))
    sNil)
      sNil)
    (sSeq (sRet (eAnd (e1 (isiD "str") (eVar 0)) (e2 eqD (eVar 0) (eVar 1))))
    sNil))))))
def m__law_is_same : Nat → List D → Option D
  | 0 => fun _ => none
  | n + 1 => runD false 3 2 (G__law_is_same (m__law_is_same n))
def G_law : FL.Env → Option Out :=
    (sSeq (sSet 1 (eL (mL 1 m__law_spot) (aCons (eL (mL 2 m__law_cell) (aCons (eVar 0) (aCons (eC (.int 0)) aNil))) aNil)))
    (sSeq (sSet 2 (eL (mL 1 m__law_spot) (aCons (eL (mL 2 m__law_cell) (aCons (eVar 0) (aCons (eC (.int 1)) aNil))) aNil)))
    (sSeq (sSet 3 (e2 modD (eL (mL 2 m__law_cell) (aCons (eVar 0) (aCons (eC (.int 2)) aNil))) (eC (.int 4))))
    (sForget [0] (sSeq (sIf (tAnd (tB blD (e2 isntD (e2 ixD (eVar 1) (eC (.int 0))) (eC .non))) (tAnd (tB blD (e2 isntD (e2 ixD (eVar 2) (eC (.int 0))) (eC .non))) (tB blD (e2 gtD (eVar 3) (eC (.int 1))))))
      (sSeq (sSet 2 (eL tupD (aCons (eL tupD (aCons (e2 ixD (e2 ixD (eVar 1) (eC (.int 0))) (eC (.int 0))) (aCons (e2 ixD (e2 ixD (eVar 2) (eC (.int 0))) (eC (.int 1))) (aCons (e2 ixD (e2 ixD (eVar 2) (eC (.int 0))) (eC (.int 2))) aNil)))) (aCons (e2 ixD (eVar 2) (eC (.int 1))) aNil))))
    sNil)
      sNil)
    (sSeq (sIf (tB blD (e2 eqD (eVar 3) (eC (.int 3))))
      (sSeq (sSet 2 (eL tupD (aCons (e2 ixD (eVar 1) (eC (.int 0))) (aCons (e2 ixD (eVar 2) (eC (.int 1))) aNil))))
    sNil)
      sNil)
    (sForget [3] (sSeq (sSet 4 (eL (mLY 2 m_way) (aCons (eVar 1) (aCons (eVar 2) aNil))))
    (sSeq (sIf (tNot (tB truD (eL (mL 2 m__law_passes) (aCons (eVar 1) (aCons (eVar 2) aNil)))))
      (sSeq (sRet (e2 eqD (eVar 4) (eL lstD aNil)))
    sNil)
      sNil)
    (sSeq (sSet 5 (eL lstD aNil))
    (sSeq (sIf (tB blD (e2 neD (e2 ixD (eVar 1) (eC (.int 0))) (e2 ixD (eVar 2) (eC (.int 0)))))
      (sSeq (sSet 5 (eL lstD (aCons (eL tupD (aCons (eC (.str "take")) (aCons (eC (.str "a")) aNil))) aNil)))
    (sSeq (sIf (tB blD (e2 isntD (e2 ixD (eVar 2) (eC (.int 0))) (eC .non)))
      (sSeq (sSet 5 (eL lstD (aCons (eL tupD (aCons (eC (.str "define")) (aCons (eC (.str "a")) (aCons (e2 ixD (e2 ixD (eVar 2) (eC (.int 0))) (eC (.int 0))) (aCons (e2 ixD (e2 ixD (eVar 2) (eC (.int 0))) (eC (.int 1))) (aCons (e2 ixD (e2 ixD (eVar 2) (eC (.int 0))) (eC (.int 2))) aNil)))))) aNil)))
    sNil)
      sNil)
    sNil))
      sNil)
    (sSeq (sIf (tAnd (tB truD (e2 ixD (eVar 2) (eC (.int 1)))) (tNot (tB truD (e2 ixD (eVar 1) (eC (.int 1))))))
      (sSeq (sMut 5 appendF (aCons (eL tupD (aCons (eC (.str "shut")) aNil)) aNil))
    sNil)
      sNil)
    (sSeq (sSet 6 (eVar 1))
    (sSeq (sFor (iSeq isLst (eVar 5)) (gSet 7)
      (sSeq (sSet 8 (eL (mL 3 m__law_act) (aCons (e2 ixD (eVar 6) (eC (.int 0))) (aCons (e2 ixD (eVar 6) (eC (.int 1))) (aCons (eVar 7) aNil)))))
    (sSeq (sSet 6 (eL tupD (aCons (e2 ixD (eVar 8) (eC (.int 1))) (aCons (e2 ixD (eVar 8) (eC (.int 2))) aNil))))
    (sSeq (sIf (tB blD (e2 isntD (e2 ixD (eVar 8) (eC (.int 0))) (eC (.bl true))))
      (sSeq (sRet (eC (.bl false)))
    sNil)
      sNil)
    sNil))))
    (sForget [7, 8] (sSeq (sRet (eAnd (e2 eqD (eVar 6) (eVar 2)) (eAnd (eL (mL 2 (m__law_is_same 6)) (aCons (eVar 4) (aCons (eVar 5) aNil))) (eL (mL 2 (m__law_is_same 6)) (aCons (eL (mLY 2 m_way) (aCons (eVar 1) (aCons (eVar 2) aNil))) (aCons (eVar 5) aNil))))))
    sNil))))))))))))))))
def m_law : List D → Option D := runD false 9 1 G_law
/-! ### what the top has left -/
structure TX (K : PySem.W.Frag) (mg : Str → Option Value) : Prop where
  d__can_replace : DefAt K "_can_replace" s__can_replace (He.ga K "_can_replace")
  g__can_replace : mg "_can_replace" = some (.ref (He.ga K "_can_replace"))
  d_can_pass : DefAt K "can_pass" s_can_pass (He.ga K "can_pass")
  g_can_pass : mg "can_pass" = some (.ref (He.ga K "can_pass"))
  d_way : DefAt K "way" s_way (He.ga K "way")
  g_way : mg "way" = some (.ref (He.ga K "way"))
  d__law_cell : DefAt K "_law_cell" s__law_cell (He.ga K "_law_cell")
  g__law_cell : mg "_law_cell" = some (.ref (He.ga K "_law_cell"))
  d__law_defines : DefAt K "_law_defines" s__law_defines (He.ga K "_law_defines")
  g__law_defines : mg "_law_defines" = some (.ref (He.ga K "_law_defines"))
  d__law_act : DefAt K "_law_act" s__law_act (He.ga K "_law_act")
  g__law_act : mg "_law_act" = some (.ref (He.ga K "_law_act"))
  d__law_passes : DefAt K "_law_passes" s__law_passes (He.ga K "_law_passes")
  g__law_passes : mg "_law_passes" = some (.ref (He.ga K "_law_passes"))
  d__law_spot : DefAt K "_law_spot" s__law_spot (He.ga K "_law_spot")
  g__law_spot : mg "_law_spot" = some (.ref (He.ga K "_law_spot"))
  d__law_is_same : DefAt K "_law_is_same" s__law_is_same (He.ga K "_law_is_same")
  g__law_is_same : mg "_law_is_same" = some (.ref (He.ga K "_law_is_same"))
  d_law : DefAt K "law" s_law (He.ga K "law")
  g_law : mg "law" = some (.ref (He.ga K "law"))
  z_bool : mg "bool" = none
  z_int : mg "int" = none
  z_isinstance : mg "isinstance" = none
  z_len : mg "len" = none
  z_list : mg "list" = none
  z_range : mg "range" = none
  z_str : mg "str" = none
  z_tuple : mg "tuple" = none
section
variable {P : Program} {w : World} {K : PySem.W.Frag} {mg : Str → Option Value} {base : Heap}
theorem cal__can_replace (T : TX K mg) : CalK P w K mg base 1 "_can_replace" false 2 m__can_replace := calK_of (ps := ["old", "new"]) (N := N__can_replace) (T.d__can_replace) T.g__can_replace sc__can_replace rfl rfl (fun _ _ _ _ _ _ us hl => match us, hl with | [_, _], _ => rfl) [] (fun cdv A outer s H E hr =>
    (fss_cons (fs_ret (fe_or (fe_ix ix_seq o_ix (fb_var (i := 0) rfl (by walk_at "VIS")) (fb_of fe_int) (fun _ _ => rfl)) (fe_one (fe_and (fe_not (fe_ix ix_seq o_ix (fb_var (i := 1) rfl (by walk_at "VIS")) (fb_of fe_int) (fun _ _ => rfl))) (fe_one (fe_or (fe_ix ix_seq o_ix (fb_var (i := 0) rfl (by walk_at "VIS")) (fb_of fe_int) (fun _ _ => rfl)) (fe_one (fe_cmp (op_eqX (u64 hr)) o_eq (fb_var (i := 0) rfl (by walk_at "VIS")) (fb_var (i := 1) rfl (by walk_at "VIS")) (nomark _)))))))))
    fss_nil))
theorem cal_can_pass (T : TX K mg) : CalK P w K mg base 2 "can_pass" false 2 m_can_pass := calK_of (ps := ["before", "after"]) (N := N_can_pass) (T.d_can_pass) T.g_can_pass sc_can_pass rfl rfl (fun _ _ _ _ _ _ us hl => match us, hl with | [_, _], _ => rfl) [] (fun cdv A outer s H E hr =>
    (fss_cons (fs_asg (fe_var (i := 0) rfl (by walk_at "VIS") (by decide)) (fg_tup rfl (fgs_cons (fg_name (i := 2) sc_can_pass.nd rfl (by walk_at "LOC")) (fgs_cons (fg_name (i := 3) sc_can_pass.nd rfl (by walk_at "LOC")) fgs_nil)) rfl (gCons_len (gCons_len gNil_len))))
    (fss_forget [0] (fss_cons (fs_asg (fe_var (i := 1) rfl (by walk_at "VIS") (by decide)) (fg_tup rfl (fgs_cons (fg_name (i := 4) sc_can_pass.nd rfl (by walk_at "LOC")) (fgs_cons (fg_name (i := 5) sc_can_pass.nd rfl (by walk_at "LOC")) fgs_nil)) rfl (gCons_len (gCons_len gNil_len))))
    (fss_forget [1] (fss_cons (fs_if (O' := []) (ft_w (fw_and (ft_val (fe_var (i := 3) rfl (by walk_at "VIS") (by decide))) (fw_and1 (ft_not (ft_val (fe_var (i := 5) rfl (by walk_at "VIS") (by decide)))))))
      (fss_cons (fs_ret fe_bl)
    fss_nil)
      (fss_to fss_nil (by decide)))
    (fss_forget [5] (fss_cons (fs_if (O' := []) (ft_cmp (op_eqX (u64 hr)) o_eq (fb_var (i := 2) rfl (by walk_at "VIS")) (fb_var (i := 4) rfl (by walk_at "VIS")) (nomark _))
      (fss_cons (fs_ret fe_bl)
    fss_nil)
      (fss_to fss_nil (by decide)))
    (fss_cons (fs_if (O' := []) (ft_cmp op_isX o_is (fb_var (i := 2) rfl (by walk_at "VIS")) (fb_of fe_non) (nomark _))
      (fss_cons (fs_ret (fe_not (fe_var (i := 3) rfl (by walk_at "VIS") (by decide))))
    fss_nil)
      (fss_to fss_nil (by decide)))
    (fss_forget [3] (fss_cons (fs_if (O' := []) (ft_cmp op_isX o_is (fb_var (i := 4) rfl (by walk_at "VIS")) (fb_of fe_non) (nomark _))
      (fss_cons (fs_ret (fe_ix ix_seq o_ix (fb_var (i := 2) rfl (by walk_at "VIS")) (fb_of fe_int) (fun _ _ => rfl)))
    fss_nil)
      (fss_to fss_nil (by decide)))
    (fss_cons (fs_ret (fe_call (cal__can_replace T) hr (by decide) rfl (fa_cons (fe_var (i := 2) rfl (by walk_at "VIS") (by decide)) (fa_cons (fe_var (i := 4) rfl (by walk_at "VIS") (by decide)) fa_nil))))
    fss_nil))))))))))))
theorem cal_way (T : TX K mg) : CalY P w K mg base 3 "way" 2 m_way := calY_of (ps := ["before", "after"]) (N := N_way) (T.d_way) T.g_way sc_way rfl rfl (fun _ _ _ _ _ _ us hl => match us, hl with | [_, _], _ => rfl) [] (fun cdv A outer s H E pn hr =>
    (fys_cons (fy_if (O' := []) (ft_not (ft_val (fe_call (cal_can_pass T) hr (by decide) rfl (fa_cons (fe_var (i := 0) rfl (by walk_at "VIS") (by decide)) (fa_cons (fe_var (i := 1) rfl (by walk_at "VIS") (by decide)) fa_nil)))))
      (fys_cons fy_ret
    fys_nil)
      fys_nil)
    (fys_cons (fy_plain (fs_asg (fe_var (i := 0) rfl (by walk_at "VIS") (by decide)) (fg_tup rfl (fgs_cons (fg_name (i := 2) sc_way.nd rfl (by walk_at "LOC")) (fgs_cons (fg_name (i := 3) sc_way.nd rfl (by walk_at "LOC")) fgs_nil)) rfl (gCons_len (gCons_len gNil_len)))))
    (fys_cons (fy_plain (fs_asg (fe_var (i := 1) rfl (by walk_at "VIS") (by decide)) (fg_tup rfl (fgs_cons (fg_name (i := 4) sc_way.nd rfl (by walk_at "LOC")) (fgs_cons (fg_name (i := 5) sc_way.nd rfl (by walk_at "LOC")) fgs_nil)) rfl (gCons_len (gCons_len gNil_len)))))
    (fys_cons (fy_if (O' := []) (ft_cmp (op_neX (u64 hr)) o_ne (fb_var (i := 2) rfl (by walk_at "VIS")) (fb_var (i := 4) rfl (by walk_at "VIS")) (nomark _))
      (fys_cons (fy_if (O' := []) (ft_cmp op_isX o_is (fb_var (i := 4) rfl (by walk_at "VIS")) (fb_of fe_non) (nomark _))
      (fys_cons (fy_yield (fe_tup (fa_cons fe_str (fa_cons fe_str fa_nil))))
    fys_nil)
      (fys_cons (fy_yield (fe_tup (fa_cons fe_str (fa_cons fe_str (fa_star (fb_var (i := 4) rfl (by walk_at "VIS")) fa_nil)))))
    fys_nil))
    fys_nil)
      fys_nil)
    (fys_cons (fy_if (O' := []) (ft_w (fw_and (ft_val (fe_var (i := 5) rfl (by walk_at "VIS") (by decide))) (fw_and1 (ft_not (ft_val (fe_var (i := 3) rfl (by walk_at "VIS") (by decide)))))))
      (fys_cons (fy_yield (fe_tup (fa_cons fe_str fa_nil)))
    fys_nil)
      fys_nil)
    fys_nil))))))
theorem cal__law_cell (T : TX K mg) : CalK P w K mg base 1 "_law_cell" false 2 m__law_cell := calK_of (ps := ["_law_script", "_law_k"]) (N := N__law_cell) (T.d__law_cell) T.g__law_cell sc__law_cell rfl rfl (fun _ _ _ _ _ _ us hl => match us, hl with | [_, _], _ => rfl) [] (fun cdv A outer s H E hr =>
    (fss_cons (fs_if (O' := []) (ft_cmp op_lt o_lt (fb_var (i := 1) rfl (by walk_at "VIS")) (fb_of (fe_callB c_len l_len rfl T.z_len (by decide +kernel) (fba_cons (fb_var (i := 0) rfl (by walk_at "VIS")) fba_nil))) (nomark _))
      (fss_cons (fs_ret (fe_callTy call_int1 l_int rfl T.z_int (by decide +kernel) (fba_cons (fb_of (fe_ix ix_seq o_ix (fb_var (i := 0) rfl (by walk_at "VIS")) (fb_var (i := 1) rfl (by walk_at "VIS")) (fun _ _ => rfl))) fba_nil)))
    fss_nil)
      (fss_to fss_nil (by decide)))
    (fss_forget [0, 1] (fss_cons (fs_ret fe_int)
    fss_nil))))
theorem cal__law_defines (T : TX K mg) : CalK P w K mg base 1 "_law_defines" false 3 m__law_defines := calK_of (ps := ["_law_old", "_law_shut", "_law_new"]) (N := N__law_defines) (T.d__law_defines) T.g__law_defines sc__law_defines rfl rfl (fun _ _ _ _ _ _ us hl => match us, hl with | [_, _, _], _ => rfl) [] (fun cdv A outer s H E hr =>
    (fss_cons (fs_if (O' := []) (ft_cmp op_isX o_is (fb_var (i := 0) rfl (by walk_at "VIS")) (fb_of fe_non) (nomark _))
      (fss_cons (fs_ret (fe_not (fe_var (i := 1) rfl (by walk_at "VIS") (by decide))))
    fss_nil)
      (fss_to fss_nil (by decide)))
    (fss_forget [1] (fss_cons (fs_if (O' := []) (ft_val (fe_ix ix_seq o_ix (fb_var (i := 0) rfl (by walk_at "VIS")) (fb_of fe_int) (fun _ _ => rfl)))
      (fss_cons (fs_ret fe_bl)
    fss_nil)
      (fss_to fss_nil (by decide)))
    (fss_cons (fs_ret (fe_and (fe_not (fe_ix ix_seq o_ix (fb_var (i := 2) rfl (by walk_at "VIS")) (fb_of fe_int) (fun _ _ => rfl))) (fe_one (fe_or (fe_ix ix_seq o_ix (fb_var (i := 0) rfl (by walk_at "VIS")) (fb_of fe_int) (fun _ _ => rfl)) (fe_one (fe_cmp (op_eqX (u64 hr)) o_eq (fb_var (i := 0) rfl (by walk_at "VIS")) (fb_var (i := 2) rfl (by walk_at "VIS")) (nomark _)))))))
    fss_nil)))))
theorem cal__law_act (T : TX K mg) : CalK P w K mg base 2 "_law_act" false 3 m__law_act := calK_of (ps := ["_law_field", "_law_shut", "_law_request"]) (N := N__law_act) (T.d__law_act) T.g__law_act sc__law_act rfl rfl (fun _ _ _ _ _ _ us hl => match us, hl with | [_, _, _], _ => rfl) [] (fun cdv A outer s H E hr =>
    (fss_cons (fs_set (i := 3) sc__law_act.nd rfl (by walk_at "LOC") (fe_ix ix_seq o_ix (fb_var (i := 2) rfl (by walk_at "VIS")) (fb_of fe_int) (fun _ _ => rfl)))
    (fss_cons (fs_if (O' := []) (ft_cmp (op_eqX (u64 hr)) o_eq (fb_var (i := 3) rfl (by walk_at "VIS")) (fb_of fe_str) (nomark _))
      (fss_cons (fs_ret (fe_of_fn (fn_lst (fa_cons (fe_var (i := 0) rfl (by walk_at "VIS") (by decide)) (fa_cons (fe_var (i := 0) rfl (by walk_at "VIS") (by decide)) (fa_cons (fe_var (i := 1) rfl (by walk_at "VIS") (by decide)) fa_nil))))))
    fss_nil)
      (fss_to fss_nil (by decide)))
    (fss_cons (fs_if (O' := []) (ft_cmp (op_eqX (u64 hr)) o_eq (fb_var (i := 3) rfl (by walk_at "VIS")) (fb_of fe_str) (nomark _))
      (fss_cons (fs_ret (fe_of_fn (fn_lst (fa_cons (fe_cmp op_isntX o_isnt (fb_var (i := 0) rfl (by walk_at "VIS")) (fb_of fe_non) (nomark _)) (fa_cons (fe_var (i := 0) rfl (by walk_at "VIS") (by decide)) (fa_cons (fe_var (i := 1) rfl (by walk_at "VIS") (by decide)) fa_nil))))))
    fss_nil)
      (fss_to fss_nil (by decide)))
    (fss_cons (fs_if (O' := []) (ft_cmp (op_eqX (u64 hr)) o_eq (fb_var (i := 3) rfl (by walk_at "VIS")) (fb_of fe_str) (nomark _))
      (fss_cons (fs_if (O' := []) (ft_cmp op_isX o_is (fb_var (i := 0) rfl (by walk_at "VIS")) (fb_of fe_non) (nomark _))
      (fss_cons (fs_ret (fe_of_fn (fn_lst (fa_cons fe_non (fa_cons (fe_var (i := 0) rfl (by walk_at "VIS") (by decide)) (fa_cons (fe_var (i := 1) rfl (by walk_at "VIS") (by decide)) fa_nil))))))
    fss_nil)
      (fss_to fss_nil (by decide)))
    (fss_cons (fs_ret (fe_of_fn (fn_lst (fa_cons (fe_ix ix_seq o_ix (fb_var (i := 0) rfl (by walk_at "VIS")) (fb_of fe_int) (fun _ _ => rfl)) (fa_cons (fe_var (i := 0) rfl (by walk_at "VIS") (by decide)) (fa_cons (fe_var (i := 1) rfl (by walk_at "VIS") (by decide)) fa_nil))))))
    fss_nil))
      (fss_to fss_nil (by decide)))
    (fss_cons (fs_if (O' := []) (ft_cmp (op_eqX (u64 hr)) o_eq (fb_var (i := 3) rfl (by walk_at "VIS")) (fb_of fe_str) (nomark _))
      (fss_cons (fs_ret (fe_of_fn (fn_lst (fa_cons fe_bl (fa_cons (fe_var (i := 0) rfl (by walk_at "VIS") (by decide)) (fa_cons fe_bl fa_nil))))))
    fss_nil)
      (fss_to fss_nil (by decide)))
    (fss_cons (fs_if (O' := []) (ft_cmp (op_eqX (u64 hr)) o_eq (fb_var (i := 3) rfl (by walk_at "VIS")) (fb_of fe_str) (nomark _))
      (fss_cons (fs_ret (fe_of_fn (fn_lst (fa_cons (fe_var (i := 1) rfl (by walk_at "VIS") (by decide)) (fa_cons (fe_var (i := 0) rfl (by walk_at "VIS") (by decide)) (fa_cons (fe_var (i := 1) rfl (by walk_at "VIS") (by decide)) fa_nil))))))
    fss_nil)
      (fss_to fss_nil (by decide)))
    (fss_cons (fs_if (O' := []) (ft_cmp (op_eqX (u64 hr)) o_eq (fb_var (i := 3) rfl (by walk_at "VIS")) (fb_of fe_str) (nomark _))
      (fss_cons (fs_if (O' := []) (ft_w (fw_and (ft_cmp op_isntX o_isnt (fb_var (i := 0) rfl (by walk_at "VIS")) (fb_of fe_non) (nomark _)) (fw_and1 (ft_not (ft_val (fe_ix ix_seq o_ix (fb_var (i := 0) rfl (by walk_at "VIS")) (fb_of fe_int) (fun _ _ => rfl)))))))
      (fss_cons (fs_ret (fe_of_fn (fn_lst (fa_cons fe_bl (fa_cons (fe_var (i := 0) rfl (by walk_at "VIS") (by decide)) (fa_cons (fe_var (i := 1) rfl (by walk_at "VIS") (by decide)) fa_nil))))))
    fss_nil)
      (fss_to fss_nil (by decide)))
    (fss_cons (fs_ret (fe_of_fn (fn_lst (fa_cons fe_bl (fa_cons fe_non (fa_cons (fe_var (i := 1) rfl (by walk_at "VIS") (by decide)) fa_nil))))))
    fss_nil))
      (fss_to fss_nil (by decide)))
    (fss_cons (fs_if (O' := []) (ft_cmp (op_eqX (u64 hr)) o_eq (fb_var (i := 3) rfl (by walk_at "VIS")) (fb_of fe_str) (nomark _))
      (fss_cons (fs_if (O' := []) (ft_w (fw_and (ft_cmp op_isX o_is (fb_var (i := 0) rfl (by walk_at "VIS")) (fb_of fe_non) (nomark _)) (fw_and1 (ft_not (ft_val (fe_var (i := 1) rfl (by walk_at "VIS") (by decide)))))))
      (fss_cons (fs_ret (fe_of_fn (fn_lst (fa_cons fe_bl (fa_cons (fe_tup (fa_cons (fe_ix ix_seq o_ix (fb_var (i := 2) rfl (by walk_at "VIS")) (fb_of fe_int) (fun _ _ => rfl)) (fa_cons fe_bl (fa_cons fe_bl fa_nil)))) (fa_cons (fe_var (i := 1) rfl (by walk_at "VIS") (by decide)) fa_nil))))))
    fss_nil)
      (fss_to fss_nil (by decide)))
    (fss_cons (fs_if (O' := []) (ft_w (fw_and (ft_cmp op_isntX o_isnt (fb_var (i := 0) rfl (by walk_at "VIS")) (fb_of fe_non) (nomark _)) (fw_and1 (ft_val (fe_ix ix_seq o_ix (fb_var (i := 0) rfl (by walk_at "VIS")) (fb_of fe_int) (fun _ _ => rfl))))))
      (fss_cons (fs_ret (fe_of_fn (fn_lst (fa_cons fe_bl (fa_cons (fe_tup (fa_cons (fe_ix ix_seq o_ix (fb_var (i := 2) rfl (by walk_at "VIS")) (fb_of fe_int) (fun _ _ => rfl)) (fa_cons fe_bl (fa_cons (fe_ix ix_seq o_ix (fb_var (i := 0) rfl (by walk_at "VIS")) (fb_of fe_int) (fun _ _ => rfl)) fa_nil)))) (fa_cons (fe_var (i := 1) rfl (by walk_at "VIS") (by decide)) fa_nil))))))
    fss_nil)
      (fss_to fss_nil (by decide)))
    (fss_cons (fs_ret (fe_of_fn (fn_lst (fa_cons fe_bl (fa_cons (fe_var (i := 0) rfl (by walk_at "VIS") (by decide)) (fa_cons (fe_var (i := 1) rfl (by walk_at "VIS") (by decide)) fa_nil))))))
    fss_nil)))
      (fss_to fss_nil (by decide)))
    (fss_forget [3] (fss_cons (fs_set (i := 4) sc__law_act.nd rfl (by walk_at "LOC") (fe_tup (fa_cons (fe_ix ix_seq o_ix (fb_var (i := 2) rfl (by walk_at "VIS")) (fb_of fe_int) (fun _ _ => rfl)) (fa_cons (fe_ix ix_seq o_ix (fb_var (i := 2) rfl (by walk_at "VIS")) (fb_of fe_int) (fun _ _ => rfl)) (fa_cons (fe_ix ix_seq o_ix (fb_var (i := 2) rfl (by walk_at "VIS")) (fb_of fe_int) (fun _ _ => rfl)) fa_nil)))))
    (fss_forget [2] (fss_cons (fs_if (O' := []) (ft_val (fe_call (cal__law_defines T) hr (by decide) rfl (fa_cons (fe_var (i := 0) rfl (by walk_at "VIS") (by decide)) (fa_cons (fe_var (i := 1) rfl (by walk_at "VIS") (by decide)) (fa_cons (fe_var (i := 4) rfl (by walk_at "VIS") (by decide)) fa_nil)))))
      (fss_cons (fs_ret (fe_of_fn (fn_lst (fa_cons fe_bl (fa_cons (fe_var (i := 4) rfl (by walk_at "VIS") (by decide)) (fa_cons (fe_var (i := 1) rfl (by walk_at "VIS") (by decide)) fa_nil))))))
    fss_nil)
      (fss_to fss_nil (by decide)))
    (fss_forget [4] (fss_cons (fs_ret (fe_of_fn (fn_lst (fa_cons fe_bl (fa_cons (fe_var (i := 0) rfl (by walk_at "VIS") (by decide)) (fa_cons (fe_var (i := 1) rfl (by walk_at "VIS") (by decide)) fa_nil))))))
    fss_nil)))))))))))))))
theorem cal__law_passes (T : TX K mg) : CalK P w K mg base 2 "_law_passes" false 2 m__law_passes := calK_of (ps := ["_law_before", "_law_after"]) (N := N__law_passes) (T.d__law_passes) T.g__law_passes sc__law_passes rfl rfl (fun _ _ _ _ _ _ us hl => match us, hl with | [_, _], _ => rfl) [] (fun cdv A outer s H E hr =>
    (fss_cons (fs_if (O' := []) (ft_w (fw_and (ft_val (fe_ix ix_seq o_ix (fb_var (i := 0) rfl (by walk_at "VIS")) (fb_of fe_int) (fun _ _ => rfl))) (fw_and1 (ft_not (ft_val (fe_ix ix_seq o_ix (fb_var (i := 1) rfl (by walk_at "VIS")) (fb_of fe_int) (fun _ _ => rfl)))))))
      (fss_cons (fs_ret fe_bl)
    fss_nil)
      (fss_to fss_nil (by decide)))
    (fss_cons (fs_if (O' := []) (ft_cmp (op_eqX (u64 hr)) o_eq (fb_of (fe_ix ix_seq o_ix (fb_var (i := 0) rfl (by walk_at "VIS")) (fb_of fe_int) (fun _ _ => rfl))) (fb_of (fe_ix ix_seq o_ix (fb_var (i := 1) rfl (by walk_at "VIS")) (fb_of fe_int) (fun _ _ => rfl))) (nomark _))
      (fss_cons (fs_ret fe_bl)
    fss_nil)
      (fss_to fss_nil (by decide)))
    (fss_cons (fs_if (O' := []) (ft_cmp op_isX o_is (fb_of (fe_ix ix_seq o_ix (fb_var (i := 1) rfl (by walk_at "VIS")) (fb_of fe_int) (fun _ _ => rfl))) (fb_of fe_non) (nomark _))
      (fss_cons (fs_ret (fe_ix ix_seq o_ix (fb_of (fe_ix ix_seq o_ix (fb_var (i := 0) rfl (by walk_at "VIS")) (fb_of fe_int) (fun _ _ => rfl))) (fb_of fe_int) (fun _ _ => rfl)))
    fss_nil)
      (fss_to fss_nil (by decide)))
    (fss_cons (fs_ret (fe_call (cal__law_defines T) hr (by decide) rfl (fa_cons (fe_ix ix_seq o_ix (fb_var (i := 0) rfl (by walk_at "VIS")) (fb_of fe_int) (fun _ _ => rfl)) (fa_cons (fe_ix ix_seq o_ix (fb_var (i := 0) rfl (by walk_at "VIS")) (fb_of fe_int) (fun _ _ => rfl)) (fa_cons (fe_ix ix_seq o_ix (fb_var (i := 1) rfl (by walk_at "VIS")) (fb_of fe_int) (fun _ _ => rfl)) fa_nil)))))
    fss_nil)))))
theorem cal__law_spot (T : TX K mg) : CalK P w K mg base 1 "_law_spot" false 1 m__law_spot := calK_of (ps := ["_law_draw"]) (N := N__law_spot) (T.d__law_spot) T.g__law_spot sc__law_spot rfl rfl (fun _ _ _ _ _ _ us hl => match us, hl with | [_], _ => rfl) [] (fun cdv A outer s H E hr =>
    (fss_cons (fs_set (i := 1) sc__law_spot.nd rfl (by walk_at "LOC") (fe_op op_mod o_mod (fb_of (fe_callTy call_int1 l_int rfl T.z_int (by decide +kernel) (fba_cons (fb_var (i := 0) rfl (by walk_at "VIS")) fba_nil))) (fb_of fe_int)))
    (fss_forget [0] (fss_cons (fs_set (i := 2) sc__law_spot.nd rfl (by walk_at "LOC") (fe_tup (fa_cons (fe_op op_mod o_mod (fb_of (fe_op op_fdiv o_fdiv (fb_var (i := 1) rfl (by walk_at "VIS")) (fb_of fe_int))) (fb_of fe_int)) (fa_cons (fe_cmp (op_eqX (u64 hr)) o_eq (fb_of (fe_op op_mod o_mod (fb_of (fe_op op_fdiv o_fdiv (fb_var (i := 1) rfl (by walk_at "VIS")) (fb_of fe_int))) (fb_of fe_int))) (fb_of fe_int) (nomark _)) (fa_cons (fe_cmp (op_eqX (u64 hr)) o_eq (fb_of (fe_op op_mod o_mod (fb_of (fe_op op_fdiv o_fdiv (fb_var (i := 1) rfl (by walk_at "VIS")) (fb_of fe_int))) (fb_of fe_int))) (fb_of fe_int) (nomark _)) fa_nil)))))
    (fss_cons (fs_if (O' := []) (ft_cmp (op_eqX (u64 hr)) o_eq (fb_of (fe_op op_fdiv o_fdiv (fb_var (i := 1) rfl (by walk_at "VIS")) (fb_of fe_int))) (fb_of fe_int) (nomark _))
      (fss_to (fss_cons (fs_set (i := 2) sc__law_spot.nd rfl (by walk_at "LOC") fe_non)
    fss_nil) (by decide))
      (fss_to fss_nil (by decide)))
    (fss_cons (fs_ret (fe_tup (fa_cons (fe_var (i := 2) rfl (by walk_at "VIS") (by decide)) (fa_cons (fe_cmp (op_eqX (u64 hr)) o_eq (fb_of (fe_op op_mod o_mod (fb_var (i := 1) rfl (by walk_at "VIS")) (fb_of fe_int))) (fb_of fe_int) (nomark _)) fa_nil))))
    fss_nil))))))
theorem cal__law_is_same' (T : TX K mg) : ∀ n : Nat, CalK P w K mg base (1 + n) "_law_is_same" false 2 (m__law_is_same n)
  | 0 => calK_zero (ps := ["_law_got", "_law_due"]) T.d__law_is_same T.g__law_is_same (fun _ _ _ _ _ _ us hl => match us, hl with | [_, _], _ => rfl)
  | n + 1 => by
    have ih := cal__law_is_same' T n
    exact calK_of (ps := ["_law_got", "_law_due"]) (N := N__law_is_same) (T.d__law_is_same) T.g__law_is_same sc__law_is_same rfl rfl (fun _ _ _ _ _ _ us hl => match us, hl with | [_, _], _ => rfl) [] (fun cdv A outer s H E hr =>
    (fss_cons (fs_if (O' := []) (ft_w (fw_or (ft_val (fe_isi (T := "tuple") (by decide) rfl T.z_isinstance (by decide +kernel) rfl T.z_tuple (by decide +kernel) (fb_var (i := 1) rfl (by walk_at "VIS")))) (fw_or1 (ft_val (fe_isi (T := "list") (by decide) rfl T.z_isinstance (by decide +kernel) rfl T.z_list (by decide +kernel) (fb_var (i := 1) rfl (by walk_at "VIS")))))))
      (fss_cons (fs_if (O' := []) (ft_w (fw_and (ft_val (fe_isi (T := "tuple") (by decide) rfl T.z_isinstance (by decide +kernel) rfl T.z_tuple (by decide +kernel) (fb_var (i := 1) rfl (by walk_at "VIS")))) (fw_and1 (ft_not (ft_val (fe_isi (T := "tuple") (by decide) rfl T.z_isinstance (by decide +kernel) rfl T.z_tuple (by decide +kernel) (fb_var (i := 0) rfl (by walk_at "VIS"))))))))
      (fss_cons (fs_ret fe_bl)
    fss_nil)
      (fss_to fss_nil (by decide)))
    (fss_cons (fs_if (O' := []) (ft_w (fw_and (ft_val (fe_isi (T := "list") (by decide) rfl T.z_isinstance (by decide +kernel) rfl T.z_list (by decide +kernel) (fb_var (i := 1) rfl (by walk_at "VIS")))) (fw_and1 (ft_not (ft_val (fe_isi (T := "list") (by decide) rfl T.z_isinstance (by decide +kernel) rfl T.z_list (by decide +kernel) (fb_var (i := 0) rfl (by walk_at "VIS"))))))))
      (fss_cons (fs_ret fe_bl)
    fss_nil)
      (fss_to fss_nil (by decide)))
    (fss_cons (fs_if (O' := []) (ft_cmp (op_neX (u64 hr)) o_ne (fb_of (fe_callB c_len l_len rfl T.z_len (by decide +kernel) (fba_cons (fb_var (i := 0) rfl (by walk_at "VIS")) fba_nil))) (fb_of (fe_callB c_len l_len rfl T.z_len (by decide +kernel) (fba_cons (fb_var (i := 1) rfl (by walk_at "VIS")) fba_nil))) (nomark _))
      (fss_cons (fs_ret fe_bl)
    fss_nil)
      (fss_to fss_nil (by decide)))
    (fss_cons (fs_for PassesOwn.never rfl (fi_rng1 rfl T.z_range (fa_cons (fe_callB c_len l_len rfl T.z_len (by decide +kernel) (fba_cons (fb_var (i := 1) rfl (by walk_at "VIS")) fba_nil)) fa_nil)) (fg_name (i := 2) sc__law_is_same.nd rfl (by walk_at "LOC"))
      (fss_to (fss_cons (fs_if (O' := []) (ft_not (ft_val (fe_call ih hr (Nat.le_refl _) rfl (fa_cons (fe_ix ix_seq o_ix (fb_var (i := 0) rfl (by walk_at "VIS")) (fb_var (i := 2) rfl (by walk_at "VIS")) (fun _ _ => rfl)) (fa_cons (fe_ix ix_seq o_ix (fb_var (i := 1) rfl (by walk_at "VIS")) (fb_var (i := 2) rfl (by walk_at "VIS")) (fun _ _ => rfl)) fa_nil)))))
      (fss_cons (fs_ret fe_bl)
    fss_nil)
      (fss_to fss_nil (by decide)))
    fss_nil) (by decide)))
    (fss_cons (fs_ret fe_bl)
    fss_nil)))))
      (fss_to fss_nil (by decide)))
    (fss_forget [2] (fss_cons (fs_if (O' := []) (ft_cmp op_isX o_is (fb_var (i := 1) rfl (by walk_at "VIS")) (fb_of fe_non) (nomark _))
      (fss_cons (fs_ret (fe_cmp op_isX o_is (fb_var (i := 0) rfl (by walk_at "VIS")) (fb_of fe_non) (nomark _)))
    fss_nil)
      (fss_to fss_nil (by decide)))
    (fss_cons (fs_if (O' := []) (ft_val (fe_isi (T := "bool") (by decide) rfl T.z_isinstance (by decide +kernel) rfl T.z_bool (by decide +kernel) (fb_var (i := 1) rfl (by walk_at "VIS"))))
      (fss_cons (fs_ret (fe_and (fe_isi (T := "bool") (by decide) rfl T.z_isinstance (by decide +kernel) rfl T.z_bool (by decide +kernel) (fb_var (i := 0) rfl (by walk_at "VIS"))) (fe_one (fe_cmp (op_eqX (u64 hr)) o_eq (fb_var (i := 0) rfl (by walk_at "VIS")) (fb_var (i := 1) rfl (by walk_at "VIS")) (nomark _)))))
    fss_nil)
      (fss_to fss_nil (by decide)))
    (fss_cons (fs_if (O' := []) (ft_val (fe_isi (T := "int") (by decide) rfl T.z_isinstance (by decide +kernel) rfl T.z_int (by decide +kernel) (fb_var (i := 1) rfl (by walk_at "VIS"))))
      (fss_cons (fs_ret (fe_and (fe_isi (T := "int") (by decide) rfl T.z_isinstance (by decide +kernel) rfl T.z_int (by decide +kernel) (fb_var (i := 0) rfl (by walk_at "VIS"))) (fe_and (fe_not (fe_isi (T := "bool") (by decide) rfl T.z_isinstance (by decide +kernel) rfl T.z_bool (by decide +kernel) (fb_var (i := 0) rfl (by walk_at "VIS")))) (fe_one (fe_cmp (op_eqX (u64 hr)) o_eq (fb_var (i := 0) rfl (by walk_at "VIS")) (fb_var (i := 1) rfl (by walk_at "VIS")) (nomark _))))))
    fss_nil)
      (fss_to fss_nil (by decide)))
    (fss_cons (fs_ret (fe_and (fe_isi (T := "str") (by decide) rfl T.z_isinstance (by decide +kernel) rfl T.z_str (by decide +kernel) (fb_var (i := 0) rfl (by walk_at "VIS"))) (fe_one (fe_cmp (op_eqX (u64 hr)) o_eq (fb_var (i := 0) rfl (by walk_at "VIS")) (fb_var (i := 1) rfl (by walk_at "VIS")) (nomark _)))))
    fss_nil)))))))
theorem cal__law_is_same (T : TX K mg) : CalK P w K mg base 7 "_law_is_same" false 2 (m__law_is_same 6) := cal__law_is_same' T 6
theorem ok_law (T : TX K mg) {fd : FuncData} (F : FunD K "law" "law" (defArgs s_law) (defBody s_law) (defScope s_law) [] [] (He.ga K "law") fd) : FnOk P w K mg base CX0 8 (He.ga K "law") fd ["_law_script"] (spF K false 1 m_law) :=
  fnOk_of (N := N_law) F sc_law rfl rfl [] (fun cdv A outer s H E hr =>
    (fss_cons (fs_set (i := 1) sc_law.nd rfl (by walk_at "LOC") (fe_call (cal__law_spot T) hr (by decide) rfl (fa_cons (fe_call (cal__law_cell T) hr (by decide) rfl (fa_cons (fe_var (i := 0) rfl (by walk_at "VIS") (by decide)) (fa_cons fe_int fa_nil))) fa_nil)))
    (fss_cons (fs_set (i := 2) sc_law.nd rfl (by walk_at "LOC") (fe_call (cal__law_spot T) hr (by decide) rfl (fa_cons (fe_call (cal__law_cell T) hr (by decide) rfl (fa_cons (fe_var (i := 0) rfl (by walk_at "VIS") (by decide)) (fa_cons fe_int fa_nil))) fa_nil)))
    (fss_cons (fs_set (i := 3) sc_law.nd rfl (by walk_at "LOC") (fe_op op_mod o_mod (fb_of (fe_call (cal__law_cell T) hr (by decide) rfl (fa_cons (fe_var (i := 0) rfl (by walk_at "VIS") (by decide)) (fa_cons fe_int fa_nil)))) (fb_of fe_int)))
    (fss_forget [0] (fss_cons (fs_if (O' := []) (ft_w (fw_and (ft_cmp op_isntX o_isnt (fb_of (fe_ix ix_seq o_ix (fb_var (i := 1) rfl (by walk_at "VIS")) (fb_of fe_int) (fun _ _ => rfl))) (fb_of fe_non) (nomark _)) (fw_and (ft_cmp op_isntX o_isnt (fb_of (fe_ix ix_seq o_ix (fb_var (i := 2) rfl (by walk_at "VIS")) (fb_of fe_int) (fun _ _ => rfl))) (fb_of fe_non) (nomark _)) (fw_and1 (ft_cmp op_gt o_gt (fb_var (i := 3) rfl (by walk_at "VIS")) (fb_of fe_int) (nomark _))))))
      (fss_to (fss_cons (fs_set (i := 2) sc_law.nd rfl (by walk_at "LOC") (fe_tup (fa_cons (fe_tup (fa_cons (fe_ix ix_seq o_ix (fb_of (fe_ix ix_seq o_ix (fb_var (i := 1) rfl (by walk_at "VIS")) (fb_of fe_int) (fun _ _ => rfl))) (fb_of fe_int) (fun _ _ => rfl)) (fa_cons (fe_ix ix_seq o_ix (fb_of (fe_ix ix_seq o_ix (fb_var (i := 2) rfl (by walk_at "VIS")) (fb_of fe_int) (fun _ _ => rfl))) (fb_of fe_int) (fun _ _ => rfl)) (fa_cons (fe_ix ix_seq o_ix (fb_of (fe_ix ix_seq o_ix (fb_var (i := 2) rfl (by walk_at "VIS")) (fb_of fe_int) (fun _ _ => rfl))) (fb_of fe_int) (fun _ _ => rfl)) fa_nil)))) (fa_cons (fe_ix ix_seq o_ix (fb_var (i := 2) rfl (by walk_at "VIS")) (fb_of fe_int) (fun _ _ => rfl)) fa_nil))))
    fss_nil) (by decide))
      (fss_to fss_nil (by decide)))
    (fss_cons (fs_if (O' := []) (ft_cmp (op_eqX (u64 hr)) o_eq (fb_var (i := 3) rfl (by walk_at "VIS")) (fb_of fe_int) (nomark _))
      (fss_to (fss_cons (fs_set (i := 2) sc_law.nd rfl (by walk_at "LOC") (fe_tup (fa_cons (fe_ix ix_seq o_ix (fb_var (i := 1) rfl (by walk_at "VIS")) (fb_of fe_int) (fun _ _ => rfl)) (fa_cons (fe_ix ix_seq o_ix (fb_var (i := 2) rfl (by walk_at "VIS")) (fb_of fe_int) (fun _ _ => rfl)) fa_nil))))
    fss_nil) (by decide))
      (fss_to fss_nil (by decide)))
    (fss_forget [3] (fss_cons (fs_set (i := 4) sc_law.nd rfl (by walk_at "LOC") (fe_of_fn (fn_listY (cal_way T) hr (by decide) rfl (fa_cons (fe_var (i := 1) rfl (by walk_at "VIS") (by decide)) (fa_cons (fe_var (i := 2) rfl (by walk_at "VIS") (by decide)) fa_nil)) rfl T.z_list (by decide +kernel))))
    (fss_cons (fs_if (O' := []) (ft_not (ft_val (fe_call (cal__law_passes T) hr (by decide) rfl (fa_cons (fe_var (i := 1) rfl (by walk_at "VIS") (by decide)) (fa_cons (fe_var (i := 2) rfl (by walk_at "VIS") (by decide)) fa_nil)))))
      (fss_cons (fs_ret (fe_cmp (op_eqX (u64 hr)) o_eq (fb_var (i := 4) rfl (by walk_at "VIS")) (fb_of (fe_of_fn (fn_lst fa_nil))) (nomark _)))
    fss_nil)
      (fss_to fss_nil (by decide)))
    (fss_cons (fs_setNew (i := 5) sc_law.nd rfl (by walk_at "LOC") (fn_lst fa_nil))
    (fss_cons (fs_if (O' := [5]) (ft_cmp (op_neX (u64 hr)) o_ne (fb_of (fe_ix ix_seq o_ix (fb_var (i := 1) rfl (by walk_at "VIS")) (fb_of fe_int) (fun _ _ => rfl))) (fb_of (fe_ix ix_seq o_ix (fb_var (i := 2) rfl (by walk_at "VIS")) (fb_of fe_int) (fun _ _ => rfl))) (nomark _))
      (fss_to (fss_cons (fs_setNew (i := 5) sc_law.nd rfl (by walk_at "LOC") (fn_lst (fa_cons (fe_tup (fa_cons fe_str (fa_cons fe_str fa_nil))) fa_nil)))
    (fss_cons (fs_if (O' := [5]) (ft_cmp op_isntX o_isnt (fb_of (fe_ix ix_seq o_ix (fb_var (i := 2) rfl (by walk_at "VIS")) (fb_of fe_int) (fun _ _ => rfl))) (fb_of fe_non) (nomark _))
      (fss_to (fss_cons (fs_setNew (i := 5) sc_law.nd rfl (by walk_at "LOC") (fn_lst (fa_cons (fe_tup (fa_cons fe_str (fa_cons fe_str (fa_cons (fe_ix ix_seq o_ix (fb_of (fe_ix ix_seq o_ix (fb_var (i := 2) rfl (by walk_at "VIS")) (fb_of fe_int) (fun _ _ => rfl))) (fb_of fe_int) (fun _ _ => rfl)) (fa_cons (fe_ix ix_seq o_ix (fb_of (fe_ix ix_seq o_ix (fb_var (i := 2) rfl (by walk_at "VIS")) (fb_of fe_int) (fun _ _ => rfl))) (fb_of fe_int) (fun _ _ => rfl)) (fa_cons (fe_ix ix_seq o_ix (fb_of (fe_ix ix_seq o_ix (fb_var (i := 2) rfl (by walk_at "VIS")) (fb_of fe_int) (fun _ _ => rfl))) (fb_of fe_int) (fun _ _ => rfl)) fa_nil)))))) fa_nil)))
    fss_nil) (by decide))
      (fss_to fss_nil (by decide)))
    fss_nil)) (by decide))
      (fss_to fss_nil (by decide)))
    (fss_cons (fs_if (O' := [5]) (ft_w (fw_and (ft_val (fe_ix ix_seq o_ix (fb_var (i := 2) rfl (by walk_at "VIS")) (fb_of fe_int) (fun _ _ => rfl))) (fw_and1 (ft_not (ft_val (fe_ix ix_seq o_ix (fb_var (i := 1) rfl (by walk_at "VIS")) (fb_of fe_int) (fun _ _ => rfl)))))))
      (fss_to (fss_cons (fs_mut (i := 5) rfl (by walk_at "VIS") (by decide) PySem.F.slot_list_append PySem.F.type_list_append mt_append r_append (fa_cons (fe_tup (fa_cons fe_str fa_nil)) fa_nil))
    fss_nil) (by decide))
      (fss_to fss_nil (by decide)))
    (fss_cons (fs_set (i := 6) sc_law.nd rfl (by walk_at "LOC") (fe_var (i := 1) rfl (by walk_at "VIS") (by decide)))
    (fss_cons (fs_frz (O1 := []) (fs_for PassesOwn.never rfl (fi_list (fe_var (i := 5) rfl (by walk_at "VIS") (by decide))) (fg_name (i := 7) sc_law.nd rfl (by walk_at "LOC"))
      (fss_to (fss_cons (fs_set (i := 8) sc_law.nd rfl (by walk_at "LOC") (fe_call (cal__law_act T) hr (by decide) rfl (fa_cons (fe_ix ix_seq o_ix (fb_var (i := 6) rfl (by walk_at "VIS")) (fb_of fe_int) (fun _ _ => rfl)) (fa_cons (fe_ix ix_seq o_ix (fb_var (i := 6) rfl (by walk_at "VIS")) (fb_of fe_int) (fun _ _ => rfl)) (fa_cons (fe_var (i := 7) rfl (by walk_at "VIS") (by decide)) fa_nil)))))
    (fss_cons (fs_set (i := 6) sc_law.nd rfl (by walk_at "LOC") (fe_tup (fa_cons (fe_ix ix_seq o_ix (fb_var (i := 8) rfl (by walk_at "VIS")) (fb_of fe_int) (fun _ _ => rfl)) (fa_cons (fe_ix ix_seq o_ix (fb_var (i := 8) rfl (by walk_at "VIS")) (fb_of fe_int) (fun _ _ => rfl)) fa_nil))))
    (fss_cons (fs_if (O' := []) (ft_cmp op_isntX o_isnt (fb_of (fe_ix ix_seq o_ix (fb_var (i := 8) rfl (by walk_at "VIS")) (fb_of fe_int) (fun _ _ => rfl))) (fb_of fe_bl) (nomark _))
      (fss_cons (fs_ret fe_bl)
    fss_nil)
      (fss_to fss_nil (by decide)))
    fss_nil))) (by decide))) (by decide))
    (fss_forget [7, 8] (fss_cons (fs_ret (fe_and (fe_cmp (op_eqX (u64 hr)) o_eq (fb_var (i := 6) rfl (by walk_at "VIS")) (fb_var (i := 2) rfl (by walk_at "VIS")) (nomark _)) (fe_and (fe_call (cal__law_is_same T) hr (by decide) rfl (fa_cons (fe_var (i := 4) rfl (by walk_at "VIS") (by decide)) (fa_cons (fe_var (i := 5) rfl (by walk_at "VIS") (by decide)) fa_nil))) (fe_one (fe_call (cal__law_is_same T) hr (by decide) rfl (fa_cons (fe_of_fn (fn_listY (cal_way T) hr (by decide) rfl (fa_cons (fe_var (i := 1) rfl (by walk_at "VIS") (by decide)) (fa_cons (fe_var (i := 2) rfl (by walk_at "VIS") (by decide)) fa_nil)) rfl T.z_list (by decide +kernel))) (fa_cons (fe_var (i := 5) rfl (by walk_at "VIS") (by decide)) fa_nil)))))))
    fss_nil)))))))))))))))))
end
end LW
namespace LW
open PySem FL
local macro_rules | `(tactic| walk_at "EV") => `(tactic| simp only [e1, e2, eL, aCons, aNil, eVar, eC, mL, modD, fdivD, intD, ixD, eIf, FL.tB, FL.tAnd, FL.tOr, FL.tNot, blD, wipeE, List.set, List.getElem?_cons_zero, List.getElem?_cons_succ, List.length, List.map, List.replicate, List.cons_append, List.nil_append, envOf, ↓reduceIte, Nat.zero_add, Nat.reduceAdd, Int.reduceLT, Nat.reduceSub, *])
abbrev Fld := Option (Int × Bool × Bool)
def enc : Fld → D
  | none => .non
  | some (v, c, g) => .tup [.int v, .bl c, .bl g]
abbrev Sta := Fld × Bool
def encS (p : Sta) : D := .tup [enc p.1, .bl p.2]
theorem fld_of {F : D} (h : IsFld F) : ∃ f : Fld, F = enc f := by
  rcases h with rfl | ⟨v, c, g, rfl, _⟩
  · exact ⟨none, rfl⟩
  · exact ⟨some (v, c, g), rfl⟩
theorem deq_enc (f f' : Fld) : deq (enc f) (enc f') = decide (f = f') := by
  cases f with
  | none => cases f' with
    | none => kernel_rfl
    | some q => obtain ⟨v, c, g⟩ := q; simp [enc, deq]
  | some p =>
    obtain ⟨v, c, g⟩ := p
    cases f' with
    | none => simp [enc, deq]
    | some q =>
      obtain ⟨v', c', g'⟩ := q
      simp only [enc, deq, deqAll]
      rw [Bool.eq_iff_iff]
      simp
theorem ok_enc (f : Fld) : okD (enc f) = true := by
  cases f with
  | none => kernel_rfl
  | some p => kernel_rfl
theorem eq_enc (f f' : Fld) : eqD (enc f) (enc f') = some (.bl (decide (f = f'))) := by
  cases f with
  | none => cases f' with
    | none => kernel_rfl
    | some q => 
      have e : eqD (enc none) (enc (some q)) = some (.bl (deq (enc none) (enc (some q)))) := by kernel_rfl
      rw [e, deq_enc]
  | some p =>
    cases f' with
    | none =>
      have e : eqD (enc (some p)) (enc none) = some (.bl (deq (enc (some p)) (enc none))) := by kernel_rfl
      rw [e, deq_enc]
    | some q =>
      have e : eqD (enc (some p)) (enc (some q)) = some (.bl (deq (enc (some p)) (enc (some q)))) := by kernel_rfl
      rw [e, deq_enc]
/-- may the new field take the old one's place -/
def repl : (Int × Bool × Bool) → (Int × Bool × Bool) → Bool := fun o n => o.2.2 || (!n.2.2 && (o.2.1 || decide (o = n)))
def passF (p q : Sta) : Bool :=
  if p.2 && !q.2 then false else if p.1 = q.1 then true else match p.1, q.1 with
    | none, _ => !p.2
    | some o, none => o.2.2
    | some o, some n => repl o n
theorem repl_eq (o n : Int × Bool × Bool) : m__can_replace [enc (some o), enc (some n)] = some (.bl (repl o n)) := by
  obtain ⟨v, c, g⟩ := o
  obtain ⟨v', c', g'⟩ := n
  cases g
  · cases g'
    · cases c
      · have e : m__can_replace [enc (some (v, false, false)), enc (some (v', c', false))] = some (.bl (deq (enc (some (v, false, false))) (enc (some (v', c', false))))) := by kernel_rfl
        rw [e, deq_enc]
        simp [repl]
      · kernel_rfl
    · kernel_rfl
  · kernel_rfl
theorem lrepl_eq (o n : Int × Bool × Bool) (s : Bool) : m__law_defines [enc (some o), .bl s, enc (some n)] = some (.bl (repl o n)) := by
  obtain ⟨v, c, g⟩ := o
  obtain ⟨v', c', g'⟩ := n
  cases g
  · cases g'
    · cases c
      · have e : m__law_defines [enc (some (v, false, false)), .bl s, enc (some (v', c', false))] = some (.bl (deq (enc (some (v, false, false))) (enc (some (v', c', false))))) := by kernel_rfl
        rw [e, deq_enc]
        simp [repl]
      · kernel_rfl
    · kernel_rfl
  · kernel_rfl
theorem pass_eq (p q : Sta) : m_can_pass [encS p, encS q] = some (.bl (passF p q)) := by
  obtain ⟨f, s⟩ := p
  obtain ⟨f', s'⟩ := q
  refine runD_rt ?_
  unfold G_can_pass
  refine seq_asg (d := encS (f, s)) (ρ' := [some (encS (f, s)), some (encS (f', s')), some (enc f), some (.bl s), none, none]) rfl rfl (seq_fg ?_)
  refine seq_asg (d := encS (f', s')) (ρ' := [none, some (encS (f', s')), some (enc f), some (.bl s), some (enc f'), some (.bl s')]) rfl rfl (seq_fg ?_)
  refine seq_if (b := s && !s') (by cases s <;> rfl) (fun hb => ?_) (fun hb => ?_)
  · refine seq_as (seq_ret ?_)
    simp [passF, hb, eC]
  · refine seq_nil (seq_fg (seq_if (b := decide (f = f')) (tB_val (e2_val rfl rfl (eq_enc f f')) rfl) (fun h => ?_) (fun h => ?_)))
    · have h' : f = f' := of_decide_eq_true h
      refine seq_as (seq_ret ?_)
      simp [passF, hb, eC, h']
    · have h' : ¬ f = f' := of_decide_eq_false h
      refine seq_nil ?_
      cases f with
      | none =>
        refine seq_t rfl (seq_as (seq_ret ?_))
        have e : passF (none, s) (f', s') = !s := by simp [passF, hb, h']
        rw [e]; rfl
      | some o =>
        refine seq_f rfl (seq_nil (seq_fg ?_))
        cases f' with
        | none =>
          refine seq_t rfl (seq_as (seq_ret ?_))
          have e : passF (some o, s) (none, s') = o.2.2 := by simp [passF, hb]
          rw [e]; rfl
        | some n =>
          refine seq_f rfl (seq_nil (seq_ret ?_))
          have e : passF (some o, s) (some n, s') = repl o n := by
            simp only [passF, hb, h', if_false, Bool.false_eq_true]
          rw [e]
          exact eL_val (ds := [enc (some o), enc (some n)]) rfl (mL_val rfl (repl_eq o n))
theorem passes_eq (p q : Sta) : m__law_passes [encS p, encS q] = some (.bl (passF p q)) := by
  obtain ⟨f, s⟩ := p
  obtain ⟨f', s'⟩ := q
  refine runD_rt ?_
  unfold G__law_passes
  refine seq_if (b := s && !s') (by cases s <;> rfl) (fun hb => ?_) (fun hb => ?_)
  · refine seq_as (seq_ret ?_)
    simp [passF, hb, eC]
  · refine seq_nil (seq_if (b := decide (f = f')) (tB_val (e2_val (x := enc f) (y := enc f') rfl rfl (eq_enc f f')) rfl) (fun h => ?_) (fun h => ?_))
    · have h' : f = f' := of_decide_eq_true h
      refine seq_as (seq_ret ?_)
      simp [passF, hb, eC, h']
    · have h' : ¬ f = f' := of_decide_eq_false h
      refine seq_nil ?_
      cases f' with
      | none =>
        refine seq_t rfl (seq_as (seq_ret ?_))
        cases f with
        | none => exact absurd rfl h'
        | some o =>
          have e : passF (some o, s) (none, s') = o.2.2 := by simp [passF, hb]
          rw [e]; rfl
      | some n =>
        refine seq_f rfl (seq_nil (seq_ret ?_))
        cases f with
        | none =>
          have e : passF (none, s) (some n, s') = !s := by simp [passF, hb]
          rw [e]
          exact eL_val (ds := [enc none, .bl s, enc (some n)]) rfl (mL_val rfl (by kernel_rfl))
        | some o =>
          have e : passF (some o, s) (some n, s') = repl o n := by
            simp only [passF, hb, h', if_false, Bool.false_eq_true]
          rw [e]
          exact eL_val (ds := [enc (some o), .bl s, enc (some n)]) rfl (mL_val rfl (lrepl_eq o n s))
/-! the deeds -/
inductive Req where
  | take | shut | define (n : Int × Bool × Bool)
def encR : Req → D
  | .take => .tup [.str "take", .str "a"]
  | .shut => .tup [.str "shut"]
  | .define (v, c, g) => .tup [.str "define", .str "a", .int v, .bl c, .bl g]
def Does (p : Sta) (r : Req) (q : Sta) : Prop := m__law_act [enc p.1, .bl p.2, encR r] = some (.lst [.bl true, enc q.1, .bl q.2])
theorem does_take (o : Int × Bool × Bool) (s : Bool) (h : o.2.2 = true) : Does (some o, s) .take (none, s) := by
  obtain ⟨v, c, g⟩ := o
  cases h
  show m__law_act [enc (some (v, c, true)), .bl s, encR .take] = _
  kernel_rfl
theorem does_shut (f : Fld) (s : Bool) : Does (f, s) .shut (f, true) := by
  cases f with
  | none => show m__law_act [enc none, .bl s, encR .shut] = _; kernel_rfl
  | some o => obtain ⟨v, c, g⟩ := o; show m__law_act [enc (some (v, c, g)), .bl s, encR .shut] = _; kernel_rfl
theorem does_new (n : Int × Bool × Bool) : Does (none, false) (.define n) (some n, false) := by
  obtain ⟨v, c, g⟩ := n
  show m__law_act [enc none, .bl false, encR (.define (v, c, g))] = _
  kernel_rfl
theorem does_repl (o n : Int × Bool × Bool) (s : Bool) (h : repl o n = true) : Does (some o, s) (.define n) (some n, s) := by
  obtain ⟨v', c', g'⟩ := n
  refine runD_rt ?_
  unfold G__law_act
  refine seq_set (d := .str "define") (by kernel_rfl) ?_
  refine seq_f (by kernel_rfl) (seq_nil (seq_f (by kernel_rfl) (seq_nil (seq_f (by kernel_rfl) (seq_nil (seq_f (by kernel_rfl) (seq_nil (seq_f (by kernel_rfl) (seq_nil (seq_f (by kernel_rfl) (seq_nil (seq_f (by kernel_rfl) (seq_nil (seq_fg ?_))))))))))))))
  refine seq_set (d := enc (some (v', c', g'))) (by kernel_rfl) (seq_fg ?_)
  refine seq_t (tB_val (eL_val (ds := [enc (some o), .bl s, enc (some (v', c', g'))]) (by kernel_rfl) (mL_val rfl (lrepl_eq o (v', c', g') s))) (by rw [h]; rfl)) ?_
  exact seq_as (seq_ret (by kernel_rfl))
/-- a row of deeds, each answered by True -/
inductive Runs : Sta → List Req → Sta → Prop
  | nil {p} : Runs p [] p
  | cons {p r p' rs q} : Does p r p' → Runs p' rs q → Runs p (r :: rs) q
def BODY_ : FL.Env → Option Out :=
    (sSeq (sSet 8 (eL (mL 3 m__law_act) (aCons (e2 ixD (eVar 6) (eC (.int 0))) (aCons (e2 ixD (eVar 6) (eC (.int 1))) (aCons (eVar 7) aNil)))))
    (sSeq (sSet 6 (eL tupD (aCons (e2 ixD (eVar 8) (eC (.int 1))) (aCons (e2 ixD (eVar 8) (eC (.int 2))) aNil))))
    (sSeq (sIf (tB blD (e2 isntD (e2 ixD (eVar 8) (eC (.int 0))) (eC (.bl true))))
      (sSeq (sRet (eC (.bl false)))
    sNil)
      sNil)
    sNil)))
def TAIL_ : FL.Env → Option Out :=
    (sSeq (sSet 6 (eVar 1))
    (sSeq (sFor (iSeq isLst (eVar 5)) (gSet 7)
      BODY_)
    (sForget [7, 8] (sSeq (sRet (eAnd (e2 eqD (eVar 6) (eVar 2)) (eAnd (eL (mL 2 (m__law_is_same 6)) (aCons (eVar 4) (aCons (eVar 5) aNil))) (eL (mL 2 (m__law_is_same 6)) (aCons (eL (mLY 2 m_way) (aCons (eVar 1) (aCons (eVar 2) aNil))) (aCons (eVar 5) aNil))))))
    sNil))))
def REST_ : FL.Env → Option Out :=
    (sSeq (sSet 4 (eL (mLY 2 m_way) (aCons (eVar 1) (aCons (eVar 2) aNil))))
    (sSeq (sIf (tNot (tB truD (eL (mL 2 m__law_passes) (aCons (eVar 1) (aCons (eVar 2) aNil)))))
      (sSeq (sRet (e2 eqD (eVar 4) (eL lstD aNil)))
    sNil)
      sNil)
    (sSeq (sSet 5 (eL lstD aNil))
    (sSeq (sIf (tB blD (e2 neD (e2 ixD (eVar 1) (eC (.int 0))) (e2 ixD (eVar 2) (eC (.int 0)))))
      (sSeq (sSet 5 (eL lstD (aCons (eL tupD (aCons (eC (.str "take")) (aCons (eC (.str "a")) aNil))) aNil)))
    (sSeq (sIf (tB blD (e2 isntD (e2 ixD (eVar 2) (eC (.int 0))) (eC .non)))
      (sSeq (sSet 5 (eL lstD (aCons (eL tupD (aCons (eC (.str "define")) (aCons (eC (.str "a")) (aCons (e2 ixD (e2 ixD (eVar 2) (eC (.int 0))) (eC (.int 0))) (aCons (e2 ixD (e2 ixD (eVar 2) (eC (.int 0))) (eC (.int 1))) (aCons (e2 ixD (e2 ixD (eVar 2) (eC (.int 0))) (eC (.int 2))) aNil)))))) aNil)))
    sNil)
      sNil)
    sNil))
      sNil)
    (sSeq (sIf (tAnd (tB truD (e2 ixD (eVar 2) (eC (.int 1)))) (tNot (tB truD (e2 ixD (eVar 1) (eC (.int 1))))))
      (sSeq (sMut 5 appendF (aCons (eL tupD (aCons (eC (.str "shut")) aNil)) aNil))
    sNil)
      sNil)
    TAIL_)))))
theorem loop_runs {x1 x2 x4 x5 : Option D} {p q : Sta} {rs : List Req} (h : Runs p rs q) : ∀ (x7 x8 : Option D), ∃ y7 y8, loopF (gSet 7) BODY_ (rs.map encR) [none, x1, x2, none, x4, x5, some (encS p), x7, x8] = some (.nx [none, x1, x2, none, x4, x5, some (encS q), y7, y8]) := by
  induction h with
  | nil => exact fun x7 x8 => ⟨x7, x8, rfl⟩
  | @cons p r p' rs q hd hr ih =>
    intro x7 x8
    obtain ⟨y7, y8, e⟩ := ih (some (encR r)) (some (.lst [.bl true, enc p'.1, .bl p'.2]))
    refine ⟨y7, y8, ?_⟩
    have hb : BODY_ [none, x1, x2, none, x4, x5, some (encS p), some (encR r), x8] = some (.nx [none, x1, x2, none, x4, x5, some (encS p'), some (encR r), some (.lst [.bl true, enc p'.1, .bl p'.2])]) := by
      unfold BODY_
      refine seq_set (d := .lst [.bl true, enc p'.1, .bl p'.2]) (eL_val (ds := [enc p.1, .bl p.2, encR r]) rfl (mL_val rfl hd)) ?_
      exact seq_set (d := encS p') rfl (seq_f rfl (seq_nil rfl))
    show loopF (gSet 7) BODY_ (encR r :: rs.map encR) _ = _
    unfold loopF
    have hg : gSet 7 (encR r) [none, x1, x2, none, x4, x5, some (encS p), x7, x8] = some [none, x1, x2, none, x4, x5, some (encS p), some (encR r), x8] := rfl
    rw [hg]
    simp only [hb]
    exact e
theorem eq_self (q : Sta) : eqD (encS q) (encS q) = some (.bl true) := by
  obtain ⟨f, s⟩ := q
  cases f with
  | none => cases s <;> kernel_rfl
  | some n =>
    have e : eqD (encS (some n, s)) (encS (some n, s)) = some (.bl (deq (encS (some n, s)) (encS (some n, s)))) := by kernel_rfl
    rw [e]
    obtain ⟨v, c, g⟩ := n
    simp [encS, enc, deq, deqAll]
/-- the deeds that are due -/
def dueF (p q : Sta) : List Req := (if p.1 = q.1 then [] else match q.1 with | none => [.take] | some n => [.define n]) ++ (if q.2 && !p.2 then [.shut] else [])
theorem due_len (p q : Sta) : (dueF p q).length < 1000 := by
  obtain ⟨f, s⟩ := p
  obtain ⟨f', s'⟩ := q
  unfold dueF
  by_cases e : f = f'
  · cases s <;> cases s' <;> simp [e]
  · cases f' <;> cases s <;> cases s' <;> simp [e]
theorem due_runs (p q : Sta) (h : passF p q = true) : Runs p (dueF p q) q := by
  obtain ⟨f, s⟩ := p
  obtain ⟨f', s'⟩ := q
  have shut : Runs (f', s) (if s' && !s then [.shut] else []) (f', s') := by
    cases s
    · cases s'
      · exact .nil
      · exact .cons (does_shut _ _) .nil
    · cases s'
      · simp [passF] at h
      · exact .nil
  unfold dueF
  by_cases e : f = f'
  · subst e
    simpa using shut
  · have hb : (s && !s') = false := by
      cases s <;> cases s' <;> simp_all [passF]
    simp only [e, if_false]
    cases f' with
    | none =>
      cases f with
      | none => exact absurd rfl e
      | some o =>
        have ho : o.2.2 = true := by simpa [passF, hb] using h
        exact .cons (does_take o s ho) shut
    | some n =>
      cases f with
      | none =>
        have hs : s = false := by simpa [passF, hb] using h
        subst hs
        exact .cons (does_new n) shut
      | some o =>
        have hr : repl o n = true := by simpa [passF, hb, e] using h
        exact .cons (does_repl o n s hr) shut
theorem ne_enc (f f' : Fld) : neD (enc f) (enc f') = some (.bl (!decide (f = f'))) := by
  cases f with
  | none => cases f' with
    | none => kernel_rfl
    | some q =>
      have e : neD (enc none) (enc (some q)) = some (.bl (!deq (enc none) (enc (some q)))) := by kernel_rfl
      rw [e, deq_enc]
  | some p =>
    cases f' with
    | none =>
      have e : neD (enc (some p)) (enc none) = some (.bl (!deq (enc (some p)) (enc none))) := by kernel_rfl
      rw [e, deq_enc]
    | some q =>
      have e : neD (enc (some p)) (enc (some q)) = some (.bl (!deq (enc (some p)) (enc (some q)))) := by kernel_rfl
      rw [e, deq_enc]
section
variable {F G A B : List D → FL.Env → Option GO} {C : FL.Env → Option Bool} {acc a' : List D} {ρ ρ' : FL.Env} {o : Option GO}
theorem y_seq (h : F acc ρ = some (.nx a' ρ')) (k : G a' ρ' = o) : ySeq F G acc ρ = o := by unfold ySeq; rw [h]; exact k
theorem y_stop (h : F acc ρ = some (.rt a')) : ySeq F G acc ρ = some (.rt a') := by unfold ySeq; rw [h]
theorem y_t (h : C ρ = some true) (k : A acc ρ = o) : yIf C A B acc ρ = o := by unfold yIf; rw [h]; exact k
theorem y_f (h : C ρ = some false) (k : B acc ρ = o) : yIf C A B acc ρ = o := by unfold yIf; rw [h]; exact k
end
theorem mLY_val {n : Nat} {m : List D → Option (List D)} {ds out : List D} (hl : ds.length = n) (h : m ds = some out) : mLY n m ds = some (.lst out) := by
  unfold mLY
  rw [if_pos hl, h]
theorem way_eq (p q : Sta) : m_way [encS p, encS q] = some (if passF p q = true then (dueF p q).map encR else []) := by
  obtain ⟨f, s⟩ := p
  obtain ⟨f', s'⟩ := q
  have hc : tNot (tB truD (eL (mL 2 m_can_pass) (aCons (eVar 0) (aCons (eVar 1) aNil)))) (envOf 6 2 [encS (f, s), encS (f', s')]) = some (!passF (f, s) (f', s')) :=
    not_val (tB_val (eL_val (ds := [encS (f, s), encS (f', s')]) rfl (mL_val rfl (pass_eq _ _))) rfl)
  show runY 6 2 G_way _ = _
  cases hp : passF (f, s) (f', s') with
  | false =>
    have e : G_way [] (envOf 6 2 [encS (f, s), encS (f', s')]) = some (.rt []) := by
      unfold G_way
      exact y_stop (y_t (by rw [hc, hp]; rfl) rfl)
    unfold runY
    rw [e]; rfl
  | true =>
    have fin : ∀ acc : List D, acc.length < 100 → ∃ ρ', (ySeq (yIf (tAnd (tB truD (eVar 5)) (tNot (tB truD (eVar 3))))
      (ySeq (yOut (eL tupD (aCons (eC (.str "shut")) aNil)))
    yNil)
      yNil)
    yNil) acc [some (encS (f, s)), some (encS (f', s')), some (enc f), some (.bl s), some (enc f'), some (.bl s')] = some (.nx (acc ++ (if s' && !s then [encR .shut] else [])) ρ') := fun acc hl => by
      have hl2 : acc.length < sizeLine := by rw [PySem.sizeLine_eq]; omega
      cases s' with
      | false => exact ⟨[some (encS (f, s)), some (encS (f', false)), some (enc f), some (.bl s), some (enc f'), some (.bl false)], y_seq (a' := acc) (y_f rfl rfl) (by simp [yNil])⟩
      | true =>
        cases s with
        | true => exact ⟨[some (encS (f, true)), some (encS (f', true)), some (enc f), some (.bl true), some (enc f'), some (.bl true)], y_seq (a' := acc) (y_f rfl rfl) (by simp [yNil])⟩
        | false => 
          refine ⟨_, y_seq (a' := acc ++ [encR .shut]) (y_t rfl (y_seq (a' := acc ++ [encR .shut]) (ρ' := [some (encS (f, false)), some (encS (f', true)), some (enc f), some (.bl false), some (enc f'), some (.bl true)]) ?_ rfl)) rfl⟩
          show (if acc.length < sizeLine then some (GO.nx (acc ++ [encR .shut]) _) else none) = _
          rw [if_pos hl2]
    have key : ∃ ρ', G_way [] (envOf 6 2 [encS (f, s), encS (f', s')]) = some (.nx ((dueF (f, s) (f', s')).map encR) ρ') := by
      unfold G_way
      by_cases e : f = f'
      · obtain ⟨ρ', h⟩ := fin [] (by decide)
        refine ⟨ρ', y_seq (y_f (by rw [hc, hp]; rfl) rfl) (y_seq (a' := []) (ρ' := [some (encS (f, s)), some (encS (f', s')), some (enc f), some (.bl s), none, none]) rfl (y_seq (a' := []) (ρ' := [some (encS (f, s)), some (encS (f', s')), some (enc f), some (.bl s), some (enc f'), some (.bl s')]) rfl
          (y_seq (a' := []) (y_f (tB_val (e2_val (x := enc f) (y := enc f') rfl rfl (ne_enc f f')) (by simp [e, blD])) rfl) ?_)))⟩
        rw [h]
        unfold dueF
        simp only [e, if_true, List.nil_append]
        cases s' <;> cases s <;> rfl
      · cases f' with
        | none =>
          obtain ⟨ρ', h⟩ := fin [encR .take] (by decide)
          refine ⟨ρ', y_seq (y_f (by rw [hc, hp]; rfl) rfl) (y_seq (a' := []) (ρ' := [some (encS (f, s)), some (encS (none, s')), some (enc f), some (.bl s), none, none]) rfl (y_seq (a' := []) (ρ' := [some (encS (f, s)), some (encS (none, s')), some (enc f), some (.bl s), some (enc none), some (.bl s')]) rfl
            (y_seq (a' := [encR .take]) (y_t (tB_val (e2_val (x := enc f) (y := enc none) rfl rfl (ne_enc f none)) (by simp [e, blD])) (y_seq (y_t rfl (y_seq (a' := [encR .take]) (ρ' := [some (encS (f, s)), some (encS (none, s')), some (enc f), some (.bl s), some (enc none), some (.bl s')]) (by kernel_rfl) rfl)) rfl)) ?_)))⟩
          rw [h]
          unfold dueF
          simp only [e, if_false]
          cases s' <;> cases s <;> rfl
        | some n =>
          obtain ⟨v, c, g⟩ := n
          obtain ⟨ρ', h⟩ := fin [encR (.define (v, c, g))] (by simp)
          refine ⟨ρ', y_seq (y_f (by rw [hc, hp]; rfl) rfl) (y_seq (a' := []) (ρ' := [some (encS (f, s)), some (encS (some (v, c, g), s')), some (enc f), some (.bl s), none, none]) rfl (y_seq (a' := []) (ρ' := [some (encS (f, s)), some (encS (some (v, c, g), s')), some (enc f), some (.bl s), some (enc (some (v, c, g))), some (.bl s')]) rfl
            (y_seq (a' := [encR (.define (v, c, g))]) (y_t (tB_val (e2_val (x := enc f) (y := enc (some (v, c, g))) rfl rfl (ne_enc f (some (v, c, g)))) (by simp [e, blD])) (y_seq (y_f rfl (y_seq (a' := [encR (.define (v, c, g))]) (ρ' := [some (encS (f, s)), some (encS (some (v, c, g), s')), some (enc f), some (.bl s), some (enc (some (v, c, g))), some (.bl s')]) (by kernel_rfl) rfl)) rfl)) ?_)))⟩
          rw [h]
          unfold dueF
          simp only [e, if_false]
          cases s' <;> cases s <;> rfl
    obtain ⟨ρ', e⟩ := key
    unfold runY
    rw [e]
    simp
theorem okR (r : Req) : okS 5 (encR r) = true := by cases r <;> kernel_rfl
theorem tail_eq {p q : Sta} {rs : List Req} (h : Runs p rs q) (hl : rs.length < 1000) (hw : m_way [encS p, encS q] = some (rs.map encR)) :
    TAIL_ [none, some (encS p), some (encS q), none, some (.lst (rs.map encR)), some (.lst (rs.map encR)), none, none, none] = some (.rt (.bl true)) := by
  have ok : okS 6 (.lst (rs.map encR)) = true := by
    simp only [okS, List.length_map, Bool.and_eq_true, decide_eq_true_eq, List.all_eq_true]
    refine ⟨by omega, fun x hx => ?_⟩
    obtain ⟨r, _, rfl⟩ := List.mem_map.mp hx
    exact okR r
  obtain ⟨y7, y8, e⟩ := loop_runs (x1 := some (encS p)) (x2 := some (encS q)) (x4 := some (.lst (rs.map encR))) (x5 := some (.lst (rs.map encR))) h none none
  unfold TAIL_
  refine seq_set (d := encS p) rfl (seq_for (ds := rs.map encR) rfl e (seq_fg (seq_ret ?_)))
  have c1 : e2 eqD (eVar 6) (eVar 2) [none, some (encS p), some (encS q), none, some (.lst (rs.map encR)), some (.lst (rs.map encR)), some (encS q), none, none] = some (.bl true) := e2_val (x := encS q) (y := encS q) rfl rfl (eq_self q)
  have c2 : eL (mL 2 (m__law_is_same 6)) (aCons (eVar 4) (aCons (eVar 5) aNil)) [none, some (encS p), some (encS q), none, some (.lst (rs.map encR)), some (.lst (rs.map encR)), some (encS q), none, none] = some (.bl true) :=
    eL_val (ds := [.lst (rs.map encR), .lst (rs.map encR)]) rfl (mL_val rfl (isSame_refl 6 _ ok))
  have c3 : eL (mL 2 (m__law_is_same 6)) (aCons (eL (mLY 2 m_way) (aCons (eVar 1) (aCons (eVar 2) aNil))) (aCons (eVar 5) aNil)) [none, some (encS p), some (encS q), none, some (.lst (rs.map encR)), some (.lst (rs.map encR)), some (encS q), none, none] = some (.bl true) :=
    eL_val (ds := [.lst (rs.map encR), .lst (rs.map encR)]) (aCons_val (eL_val (ds := [encS p, encS q]) rfl (mLY_val rfl hw)) rfl) (mL_val rfl (isSame_refl 6 _ ok))
  show eAnd _ (eAnd _ _) [none, some (encS p), some (encS q), none, some (.lst (rs.map encR)), some (.lst (rs.map encR)), some (encS q), none, none] = _
  unfold eAnd
  rw [c1]
  simp only [truD]
  rw [c2]
  exact c3
theorem rest_eq (p q : Sta) : REST_ [none, some (encS p), some (encS q), none, none, none, none, none, none] = some (.rt (.bl true)) := by
  have hw := way_eq p q
  have hpass : ∀ x4 : Option D, tNot (tB truD (eL (mL 2 m__law_passes) (aCons (eVar 1) (aCons (eVar 2) aNil)))) [none, some (encS p), some (encS q), none, x4, none, none, none, none] = some (!passF p q) := fun x4 =>
    not_val (tB_val (eL_val (ds := [encS p, encS q]) rfl (mL_val rfl (passes_eq _ _))) rfl)
  unfold REST_
  cases hp : passF p q with
  | false =>
    rw [hp] at hw
    refine seq_set (d := .lst []) (eL_val (ds := [encS p, encS q]) rfl (mLY_val rfl hw)) ?_
    exact seq_t ((hpass _).trans (by rw [hp]; rfl)) (seq_as (seq_ret (by kernel_rfl)))
  | true =>
    rw [hp, if_pos rfl] at hw
    have hr := due_runs p q hp
    obtain ⟨f, s⟩ := p
    obtain ⟨f', s'⟩ := q
    refine seq_set (d := .lst ((dueF (f, s) (f', s')).map encR)) (eL_val (ds := [encS (f, s), encS (f', s')]) rfl (mLY_val rfl hw)) ?_
    refine seq_f ((hpass _).trans (by rw [hp]; rfl)) (seq_nil (seq_set (d := .lst []) (by kernel_rfl) ?_))
    have hl := due_len (f, s) (f', s')
    have tl := tail_eq hr hl hw
    generalize hW : D.lst ((dueF (f, s) (f', s')).map encR) = W at tl
    -- the list that is due, step by step
    have last : ∀ rs : List Req, rs.length < 100 → dueF (f, s) (f', s') = rs ++ (if s' && !s then [.shut] else []) → 
        (sSeq (sIf (tAnd (tB truD (e2 ixD (eVar 2) (eC (.int 1)))) (tNot (tB truD (e2 ixD (eVar 1) (eC (.int 1))))))
      (sSeq (sMut 5 appendF (aCons (eL tupD (aCons (eC (.str "shut")) aNil)) aNil))
    sNil)
      sNil)
    TAIL_) [none, some (encS (f, s)), some (encS (f', s')), none, some W, some (.lst (rs.map encR)), none, none, none] = some (.rt (.bl true)) := fun rs hrs e => by
      cases s' with
      | false =>
        refine seq_f rfl (seq_nil ?_)
        have : dueF (f, s) (f', false) = rs := by rw [e]; simp
        rw [this] at hW
        rw [hW]; exact tl
      | true =>
        cases s with
        | true =>
          refine seq_f rfl (seq_nil ?_)
          have : dueF (f, true) (f', true) = rs := by rw [e]; simp
          rw [this] at hW
          rw [hW]; exact tl
        | false =>
          refine seq_t rfl (seq_as (seq_mut (ds := [encR .shut]) (ys := rs.map encR ++ [encR .shut]) rfl rfl ?_ (seq_nil ?_)))
          · show (if (rs.map encR).length < sizeLine then some (rs.map encR ++ [encR .shut]) else none) = _
            rw [if_pos (by rw [List.length_map, PySem.sizeLine_eq]; omega)]
          · have : dueF (f, false) (f', true) = rs ++ [.shut] := by rw [e]; simp
            rw [this, List.map_append] at hW
            have hW' : D.lst (rs.map encR ++ [encR .shut]) = W := hW
            show TAIL_ [none, some (encS (f, false)), some (encS (f', true)), none, some W, some (.lst (rs.map encR ++ [encR .shut])), none, none, none] = _
            rw [hW']; exact tl
    by_cases e : f = f'
    · refine seq_f (tB_val (e2_val (x := enc f) (y := enc f') rfl rfl (ne_enc f f')) (by simp [e, blD])) (seq_nil ?_)
      exact last [] (by decide) (by unfold dueF; simp [e])
    · refine seq_t (tB_val (e2_val (x := enc f) (y := enc f') rfl rfl (ne_enc f f')) (by simp [e, blD])) (seq_as (seq_set (d := .lst [encR .take]) (by kernel_rfl) ?_))
      cases f' with
      | none => exact seq_as (seq_f rfl (seq_nil (seq_nil (last [.take] (by decide) (by unfold dueF; simp [e])))))
      | some n =>
        obtain ⟨v, c, g⟩ := n
        exact seq_as (seq_t rfl (seq_as (seq_set (d := .lst [encR (.define (v, c, g))]) (by kernel_rfl) (seq_nil (seq_nil (last [.define (v, c, g)] (by simp) (by unfold dueF; simp [e])))))))
theorem law_true (ns : List Int) (_ : ns.length ≤ 63) : m_law [.klst (ns.map D.int)] = some (.bl true) := by
  have a0 : m__law_cell [scr ns, .int 0] = some (.int (ns.getD 0 0)) := cell_eq ns 0
  have a1 : m__law_cell [scr ns, .int 1] = some (.int (ns.getD 1 0)) := cell_eq ns 1
  have a2 : m__law_cell [scr ns, .int 2] = some (.int (ns.getD 2 0)) := cell_eq ns 2
  obtain ⟨F, s, hp, hF⟩ := spot_form (ns.getD 0 0)
  obtain ⟨F2, s2, hp2, hF2⟩ := spot_form (ns.getD 1 0)
  have hp' : m__law_spot [.int (ns.getD 0 0)] = some (.tup [F, .bl s]) := hp
  have hp2' : m__law_spot [.int (ns.getD 1 0)] = some (.tup [F2, .bl s2]) := hp2
  show m_law [scr ns] = _
  generalize scr ns = S at a0 a1 a2 ⊢
  generalize ns.getD 0 0 = z0 at a0 hp'
  generalize ns.getD 1 0 = z1 at a1 hp2'
  generalize ns.getD 2 0 = z2 at a2
  clear hp hp2
  obtain ⟨f, rfl⟩ := fld_of hF
  obtain ⟨f2, rfl⟩ := fld_of hF2
  refine runD_rt ?_
  unfold G_law
  refine seq_set (d := encS (f, s)) (by walk_at "EV"; rfl) ?_
  refine seq_set (d := encS (f2, s2)) (by walk_at "EV"; rfl) ?_
  refine seq_set (d := .int (z2 % 4)) (mod_v 4 (by decide) (eL_val (ds := [S, .int 2]) rfl (mL_val rfl a2))) (seq_fg ?_)
  have two : ∀ q : Sta, (sSeq (sIf (tB blD (e2 eqD (eVar 3) (eC (.int 3))))
      (sSeq (sSet 2 (eL tupD (aCons (e2 ixD (eVar 1) (eC (.int 0))) (aCons (e2 ixD (eVar 2) (eC (.int 1))) aNil))))
    sNil)
      sNil)
    (sForget [3] REST_)) [none, some (encS (f, s)), some (encS q), some (.int (z2 % 4)), none, none, none, none, none] = some (.rt (.bl true)) := fun q => by
    refine seq_if (b := z2 % 4 == 3) (teq_v rfl rfl) (fun _ => ?_) (fun _ => ?_)
    · exact seq_as (seq_set (d := encS (f, q.2)) rfl (seq_nil (seq_fg (rest_eq (f, s) (f, q.2)))))
    · exact seq_nil (seq_fg (rest_eq (f, s) q))
  cases f with
  | none => exact seq_f rfl (seq_nil (two (f2, s2)))
  | some o =>
    obtain ⟨v, c, g⟩ := o
    cases f2 with
    | none => exact seq_f rfl (seq_nil (two (none, s2)))
    | some o2 =>
      obtain ⟨v2, c2, g2⟩ := o2
      have h4 : tB blD (e2 gtD (eVar 3) (eC (.int 1))) [none, some (encS (some (v, c, g), s)), some (encS (some (v2, c2, g2), s2)), some (.int (z2 % 4)), none, none, none, none, none] = some (decide (1 < z2 % 4)) := gt_v rfl rfl
      refine seq_if (b := decide (1 < z2 % 4)) h4 (fun _ => ?_) (fun _ => ?_)
      · exact seq_as (seq_set (d := encS (some (v, c2, g2), s2)) rfl (seq_nil (two (some (v, c2, g2), s2))))
      · exact seq_nil (two (some (v2, c2, g2), s2))
end LW
namespace LW
open PySem PySem.Spec PyProof.Rows L2 FL
def fn : List He.DefD := [⟨("_can_replace", none), "_can_replace", "_can_replace", defArgs s__can_replace, defBody s__can_replace, defScope s__can_replace, [], []⟩, ⟨("can_pass", none), "can_pass", "can_pass", defArgs s_can_pass, defBody s_can_pass, defScope s_can_pass, [], []⟩, ⟨("way", none), "way", "way", defArgs s_way, defBody s_way, defScope s_way, [], []⟩, ⟨("_law_cell", none), "_law_cell", "_law_cell", defArgs s__law_cell, defBody s__law_cell, defScope s__law_cell, [], []⟩, ⟨("_law_defines", none), "_law_defines", "_law_defines", defArgs s__law_defines, defBody s__law_defines, defScope s__law_defines, [], []⟩, ⟨("_law_act", none), "_law_act", "_law_act", defArgs s__law_act, defBody s__law_act, defScope s__law_act, [], []⟩, ⟨("_law_passes", none), "_law_passes", "_law_passes", defArgs s__law_passes, defBody s__law_passes, defScope s__law_passes, [], []⟩, ⟨("_law_spot", none), "_law_spot", "_law_spot", defArgs s__law_spot, defBody s__law_spot, defScope s__law_spot, [], []⟩, ⟨("_law_is_same", none), "_law_is_same", "_law_is_same", defArgs s__law_is_same, defBody s__law_is_same, defScope s__law_is_same, [], []⟩, ⟨("law", none), "law", "law", defArgs s_law, defBody s_law, defScope s_law, [], []⟩]
def fa : List He.Fa := [.glo "_can_replace", .glo "can_pass", .glo "way", .glo "_law_cell", .glo "_law_defines", .glo "_law_act", .glo "_law_passes", .glo "_law_spot", .glo "_law_is_same", .glo "law", .free "bool", .free "int", .free "isinstance", .free "len", .free "list", .free "range", .free "str", .free "tuple"]
def ex (K : PySem.W.Frag) : Bool := true
abbrev R : PySem.W.OpenRow := PySem.W.OpenLaw.row PySem.Challenge.rw_lyingstandins_k06_way
abbrev hk : PySem.W.Hook := hookF 6 fa fn ex
def ob (s : PySem.W.SharedT) : He.AlD × Bool := obsF 6 fa fn ex (HandSHeadRun.getT s)
theorem ob_eq (s : PySem.W.SharedT) : ob s = hk.obs s.abs := obsF_eq (HandSHeadRun.getT_eq s)
def loose : List PySem.Str := ["_can_replace", "_law_act", "_law_cell", "_law_defines", "_law_is_same", "_law_passes", "_law_spot", "can_pass", "way"]
theorem run (w : World) : HandSHeadRun.RunEq R (PySem.W.view R.prog [11]) hk ob 3000 loose w := by
  intro os
  kernel_rfl
theorem tx {K : PySem.W.Frag} {h : Heap} {mg : Str → Option Value} (X : K.In h) (G : h.Ns mainGlobals mg) (c : SaysF fa fn ex K) : TX K mg := by
  obtain ⟨c, cx⟩ := c
  exact ⟨defAt_of c 0 rfl, He.glo_ok X G (c.fact 0 rfl), defAt_of c 1 rfl, He.glo_ok X G (c.fact 1 rfl), defAt_of c 2 rfl, He.glo_ok X G (c.fact 2 rfl), defAt_of c 3 rfl, He.glo_ok X G (c.fact 3 rfl), defAt_of c 4 rfl, He.glo_ok X G (c.fact 4 rfl), defAt_of c 5 rfl, He.glo_ok X G (c.fact 5 rfl), defAt_of c 6 rfl, He.glo_ok X G (c.fact 6 rfl), defAt_of c 7 rfl, He.glo_ok X G (c.fact 7 rfl), defAt_of c 8 rfl, He.glo_ok X G (c.fact 8 rfl), defAt_of c 9 rfl, He.glo_ok X G (c.fact 9 rfl), He.free_ok X G (c.fact 10 rfl), He.free_ok X G (c.fact 11 rfl), He.free_ok X G (c.fact 12 rfl), He.free_ok X G (c.fact 13 rfl), He.free_ok X G (c.fact 14 rfl), He.free_ok X G (c.fact 15 rfl), He.free_ok X G (c.fact 16 rfl), He.free_ok X G (c.fact 17 rfl)⟩
theorem facts {P : Program} {w : World} {K : PySem.W.Frag} {h : Heap} {mg : Str → Option Value} {f : Addr} (X : K.In h) (G : h.Ns mainGlobals mg) (hfa : mg ("law" : Str) = some (.ref f)) (c : SaysF fa fn ex K) :
    ∃ fd : FuncData, (∀ (s : Shared) (v : Value), BindsTo s fd ⟨[v], []⟩ [("_law_script", v)]) ∧ ∀ base : Heap, K.In base → base.Ns mainGlobals mg → FnOk P w K mg base CX0 8 f fd ["_law_script"] (spF K false 1 m_law) := by
  have T : TX K mg := tx X G c
  have e := hfa.symm.trans T.g_law
  cases e
  obtain ⟨fd, F⟩ := T.d_law
  have b := FunD.bindsA (ps := ["_law_script"]) F fun _ _ _ _ _ _ us hl => match us, hl with | [_], _ => rfl
  exact ⟨fd, fun s v => b s [v] rfl, fun base _ _ => ok_law T F⟩
end LW
open PySem PySem.W PySem.Calls PyProof.Rows
set_option maxHeartbeats 0 in
theorem PySem.Challenge.cw_lyingstandins_k06_way_holds : PySem.Challenge.rw_lyingstandins_k06_way.Holds := by
  w_on; o_law
  refine HandSHeadRun.head_any (r := OpenLaw.row PySem.Challenge.rw_lyingstandins_k06_way) (q := view (OpenLaw.row PySem.Challenge.rw_lyingstandins_k06_way).prog [11]) (H := LW.hk) (ob := LW.ob) (M := 3000) (loose := LW.loose) (d := HandSHeadRun.topDef (OpenLaw.row PySem.Challenge.rw_lyingstandins_k06_way).prog 11) (kwd := []) LW.ob_eq
    (by kernel_rfl) (fun s => by kernel_rfl) LW.run (by kernel_rfl) (by kernel_rfl) (by kernel_rfl) (by rfl) (by first | assumption | decide +kernel) (by decide +kernel) ⟨rfl, rfl, rfl, rfl, rfl, by decide +kernel⟩ ?hw ?hc
  case hw => w_witness2
  case hc =>
    refine L2.walk_ofE (l := PySem.Challenge.rw_lyingstandins_k06_way) (n := 63) (k := 8) (x := "_law_script") (CX := L2.CX0) rfl (by decide) (by kernel_rfl) ⟨rfl, by decide, by decide⟩ ?F (fun _ _ _ _ z => z)
    intro w mg fa h Y G hmg0
    obtain ⟨K, KX, c⟩ := Y
    have hmg : mg ("law" : PySem.Str) = some (.ref fa) := by
      have e : (HandSHeadRun.topDef (OpenLaw.row PySem.Challenge.rw_lyingstandins_k06_way).prog 11).name = ("law" : PySem.Str) := by kernel_rfl
      rw [← e]
      exact hmg0
    obtain ⟨fd, hb, hF⟩ := LW.facts (P := (PySem.Challenge.rw_lyingstandins_k06_way).prog) (w := w) KX G hmg c
    exact ⟨K, fd, FL.spF K false 1 LW.m_law, KX, hb, FL.law_sp LW.law_true, hF⟩
