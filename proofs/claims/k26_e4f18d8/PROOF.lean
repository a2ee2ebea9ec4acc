import PyProof.Rows.All
import Wide.All
import OpenK.AllK
import Wide.FinOn
import HandS.ForMost
import HandS.IsInst
import HandS.Defaults
import HandS.StrMore
import HandS.Flow
import HandS.Codes
import HandS.EndBits
import HandS.Walk
import HandS.Replace
import HandS.Star
import HandS.TupLe
import HandS.ForExc
import HandS.TryMany
import HandS.ExcIs
import HandS.ExcField
import KE.OsGo
import KE.KExcIs
import HandS.Deep
import PyProof.EqKinds
import HandS.SlotsOwn
import KE.KOpsOwn
import HandS.Iter
import HandS.More
import HandS.SetTxt0
import HandS.Zip
import HandS.Conv
import PyProof.ListStr
import HandS.ReplaceDef
import HandS.ReplaceLit
import HandS.ReplaceList
import PyProof.Rows.Range3
import HandS.ClsMeth
import PyProof.P3In
import HandS.TupAny
import HandS.Lambda
import PyProof.CallFns
import PyProof.NeData
import HandS.EndTab
import KE.KUnpackStar
import HandS.DictTup
import KE.KDictList
import KE.KDictItemsList
import HandS.NoneIn
import HandS.Strs
import HandS.SetFor
import PyProof.WalksMore
import PyProof.WalksS
import HandS.Comp
import HandS.SetBool
import HandS.SortKw
import HandS.Style
import PyProof.SumWalk
import OpenK.KMeth
import HandS.DictComp
import PyProof.P3Eq
import HandS.Small
import HandS.Finally
import HandS.MakeKwOnly
import PyProof.InstEq
import PyProof.IsRules
import HandS.Text
import PyProof.SliceStr2
import HandS.Property
import PySem.Challenge.RW_filerights_k26_deciding_entries
set_option Elab.async false
set_option linter.all false
set_option maxRecDepth 100000
/-! own lemmas over the hand layer: what a def's body holds of the heap -/
namespace FR
open PySem PySem.Spec PyProof.Rows L2 TL
/-- all that was tracked, other than at M, is as it was -/
def Keep (M : List Addr) (H H' : Hp) : Prop := ∀ b o, H b = some o → b ∉ M → H' b = some o
theorem Keep.refl {M : List Addr} {H : Hp} : Keep M H H := fun _ _ h _ => h
theorem Keep.same {H H' : Hp} (k : Keep [] H H') : Same H H' := fun b o h => k b o h (by simp)
theorem Keep.of_same {H H' : Hp} (k : Same H H') : Keep [] H H' := fun b o h _ => k b o h
theorem Keep.free {H H' : Hp} (k : Keep [] H H') {p : Addr} (h : H' p = none) : H p = none := k.same.free h
/-- a body's heap: H0 at its entry, M what it may change, L what it holds -/
structure Ow (H0 : Hp) (M : List Addr) (H : Hp) (L : List (Addr × HO)) : Prop where
  keep : ∀ b o, H0 b = some o → b ∉ M → H b = some o
  has : ∀ p ∈ L, H p.1 = some p.2
  nd : (L.map (·.1)).Nodup
  fr : ∀ p ∈ L, H0 p.1 = none ∨ p.1 ∈ M
section
variable {H0 H H' : Hp} {M : List Addr} {L : List (Addr × HO)} {a p : Addr} {o o' : HO} {K : PySem.W.Frag} {xs : List V}
theorem Ow.start0 : Ow H [] H [] := ⟨fun _ _ h _ => h, fun _ h => by simp at h, by simp, fun _ h => by simp at h⟩
theorem Ow.start1 (h : H a = some o) : Ow H [a] H [(a, o)] := ⟨fun _ _ h _ => h, fun p hp => by simp at hp; subst hp; exact h, by simp, fun p hp => by simp at hp; subst hp; exact .inr (by simp)⟩
theorem Ow.get (W : Ow H0 M H L) (i : Nat) (e : L[i]? = some (a, o)) : H a = some o := W.has _ (List.mem_of_getElem? e)
theorem Ow.new (W : Ow H0 M H L) (h : H p = none) : Ow H0 M (upd H p o) ((p, o) :: L) where
  keep := fun b u e hb => by
    rw [upd_ne (ne_of_none (W.keep b u e hb) h)]
    exact W.keep b u e hb
  has := fun q hq => by
    rcases List.mem_cons.mp hq with rfl | hq
    · exact upd_same
    · rw [upd_ne (ne_of_none (W.has q hq) h)]
      exact W.has q hq
  nd := by
    rw [List.map_cons, List.nodup_cons]
    refine ⟨fun hm => ?_, W.nd⟩
    obtain ⟨q, hq, e⟩ := List.mem_map.mp hm
    have := W.has q hq
    rw [show q.1 = p from e, h] at this
    cases this
  fr := fun q hq => by
    rcases List.mem_cons.mp hq with rfl | hq
    · by_cases hm : p ∈ M
      · exact .inr hm
      · cases e : H0 p with
        | none => exact .inl rfl
        | some u =>
          have := W.keep p u e hm
          rw [h] at this
          cases this
    · exact W.fr q hq
theorem nd_of {α β : Type} [DecidableEq α] : ∀ {L : List (α × β)} {i : Nat} {x : α × β} {q : α × β}, (L.map (·.1)).Nodup → L[i]? = some x → q ∈ L → q.1 = x.1 → q = x
  | [], i, x, q, _, e, _, _ => by simp at e
  | y :: L, 0, x, q, hn, e, hq, h => by
    have e' : y = x := Option.some.inj e
    subst e'
    rcases List.mem_cons.mp hq with r | hq
    · exact r
    · rw [List.map_cons, List.nodup_cons] at hn
      exact absurd (List.mem_map.mpr ⟨q, hq, h⟩) hn.1
  | y :: L, i + 1, x, q, hn, e, hq, h => by
    rw [List.map_cons, List.nodup_cons] at hn
    have e' : L[i]? = some x := e
    rcases List.mem_cons.mp hq with r | hq
    · subst r
      exact absurd (List.mem_map.mpr ⟨x, List.mem_of_getElem? e', h.symm⟩) hn.1
    · exact nd_of hn.2 e' hq h
theorem map_set_fst {α β : Type} : ∀ {L : List (α × β)} {i : Nat} {a : α} {o o' : β}, L[i]? = some (a, o) → (L.set i (a, o')).map (·.1) = L.map (·.1)
  | [], i, a, o, o', e => by simp at e
  | y :: L, 0, a, o, o', e => by
    have e' : y = (a, o) := Option.some.inj e
    subst e'
    rfl
  | y :: L, i + 1, a, o, o', e => by
    have e' : L[i]? = some (a, o) := e
    rw [List.set_cons_succ, List.map_cons, List.map_cons, map_set_fst e']
theorem Ow.any1 (W : Ow H0 M H L) (i : Nat) (e : L[i]? = some (a, o)) (k : Keep [a] H H') (h : H' a = some o') : Ow H0 M H' (L.set i (a, o')) where
  keep := fun b u eb hb => by
    have z := W.keep b u eb hb
    refine k b u z ?_
    intro hm
    have hm' : b = a := by simpa using hm
    subst hm'
    rcases W.fr _ (List.mem_of_getElem? e) with r | r
    · rw [show (b, o).1 = b from rfl, eb] at r; cases r
    · exact hb r
  has := fun q hq => by
    rcases List.mem_or_eq_of_mem_set hq with hq | rfl
    · by_cases ha : q.1 = a
      · have := nd_of (q := q) (by rw [map_set_fst (o' := o') e]; exact W.nd) (show (L.set i (a, o'))[i]? = some (a, o') by
          have hi : i < L.length := (List.getElem?_eq_some_iff.mp e).1
          rw [List.getElem?_set_self hi]) (by assumption) ha
        subst this
        exact h
      · exact k _ _ (W.has q hq) (by simpa using ha)
    · exact h
  nd := by rw [map_set_fst e]; exact W.nd
  fr := fun q hq => by
    rcases List.mem_or_eq_of_mem_set hq with hq | rfl
    · exact W.fr q hq
    · exact (W.fr (a, o) (List.mem_of_getElem? e) : H0 a = none ∨ a ∈ M)
theorem keep_upd {H : Hp} {a : Addr} {o : HO} : Keep [a] H (upd H a o) := fun b u e hb => by
  rw [upd_ne (by simpa using hb)]
  exact e
theorem Ow.set (W : Ow H0 M H L) (i : Nat) (e : L[i]? = some (a, o)) : Ow H0 M (upd H a o') (L.set i (a, o')) := W.any1 i e keep_upd upd_same
/-- a call that changed nothing -/
theorem Ow.call0 (W : Ow H0 M H L) (k : Keep [] H H') : Ow H0 M H' L where
  keep := fun b u e hb => k b u (W.keep b u e hb) (by simp)
  has := fun q hq => k _ _ (W.has q hq) (by simp)
  nd := W.nd
  fr := W.fr
/-- .. and handed back a new object -/
theorem Ow.res (W : Ow H0 M H L) (W' : Ow H0 M H' L) (hp : H p = none) (h : H' p = some o) : Ow H0 M H' ((p, o) :: L) where
  keep := W'.keep
  has := fun q hq => by
    rcases List.mem_cons.mp hq with rfl | hq
    · exact h
    · exact W'.has q hq
  nd := by
    rw [List.map_cons, List.nodup_cons]
    refine ⟨fun hm => ?_, W.nd⟩
    obtain ⟨q, hq, e⟩ := List.mem_map.mp hm
    have := W.has q hq
    rw [show q.1 = p from e, hp] at this
    cases this
  fr := fun q hq => by
    rcases List.mem_cons.mp hq with rfl | hq
    · by_cases hm : p ∈ M
      · exact .inr hm
      · cases e : H0 p with
        | none => exact .inl rfl
        | some u =>
          have := W.keep p u e hm
          rw [hp] at this
          cases this
    · exact W.fr q hq
theorem Ow.tail {q : Addr × HO} (W : Ow H0 M H (q :: L)) : Ow H0 M H L := ⟨W.keep, fun p hp => W.has p (List.mem_cons_of_mem _ hp), (List.nodup_cons.mp W.nd).2, fun p hp => W.fr p (List.mem_cons_of_mem _ hp)⟩
theorem Ow.drop (W : Ow H0 M H L) : Ow H0 M H [] := ⟨W.keep, fun _ h => by simp at h, by simp, fun _ h => by simp at h⟩
theorem Ow.seq (W : Ow H0 M H L) (h : SqL K H0 a xs) (ha : a ∉ M) : SqL K H a xs := by
  rcases h with (h | ⟨o, h⟩) | h
  · exact .inl (.inl (W.keep _ _ h ha))
  · exact .inl (.inr ⟨o, W.keep _ _ h ha⟩)
  · exact .inr h
theorem Ow.sq (W : Ow H0 M H L) (i : Nat) (e : L[i]? = some (a, .lst xs)) : SqL K H a xs := .inl (.inl (W.get i e))
theorem Ow.sqT (W : Ow H0 M H L) (i : Nat) (e : L[i]? = some (a, .tup xs)) : SqT K H a xs := .inl (.inl (W.get i e))
end
/-! ### objects that are made or changed: the heap behind is told by what it keeps -/
structure NewO (o : HO) (Q : VK) (H : Hp) : Prop where
  to : ∀ (p : Addr) (H' : Hp), H p = none → Keep [] H H' → H' p = some o → Q (.ref p) H'
structure MutO (a : Addr) (o : HO) (Q : Hp → Prop) (H : Hp) : Prop where
  to : ∀ H' : Hp, Keep [a] H H' → H' a = some o → Q H'
theorem keep_new {H : Hp} {p : Addr} {o : HO} (np : H p = none) : Keep [] H (upd H p o) := fun b u e _ => by
  rw [upd_ne (ne_of_none e np)]
  exact e
theorem NewO.all {o : HO} {Q : VK} {H : Hp} (h : NewO o Q H) : ∀ p, H p = none → Q (.ref p) (upd H p o) := fun p np => h.to p _ np (keep_new np) upd_same
theorem MutO.at {a : Addr} {o : HO} {Q : Hp → Prop} {H : Hp} (h : MutO a o Q H) : Q (upd H a o) := h.to _ keep_upd upd_same
section
variable {H0 H H' : Hp} {M : List Addr} {L : List (Addr × HO)} {a p : Addr} {o o' : HO} {G : Prop}
theorem with1 (i : Nat) (W : Ow H0 M H L) (e : L[i]? = some (a, o)) (k : Keep [a] H H') (h : H' a = some o') (g : Ow H0 M H' (L.set i (a, o')) → G) : G := g (W.any1 i e k h)
theorem withN (W : Ow H0 M H L) (np : H p = none) (k : Keep [] H H') (h : H' p = some o) (g : Ow H0 M H' ((p, o) :: L) → G) : G := g (W.res (W.call0 k) np h)
theorem with0 (W : Ow H0 M H L) (k : Keep [] H H') (g : Ow H0 M H' L → G) : G := g (W.call0 k)
end
section
variable {X : Cx} {e : Expr} {es : List Expr} {t t' : TE} {ta : TA} {pos : Pos} {K : PySem.W.Frag}
def mA (t : TA) : TA := fun σ H Q => ∃ Q0, t σ H Q0 ∧ ∀ xs H', Q0 xs H' → Q xs H'
theorem pa_m (h : PA X es ta) : PA X es (mA ta) := ⟨fun pos pins s σ H Q I hq => by
  obtain ⟨Q0, h0, hi⟩ := hq
  exact thn (h.run pos pins s σ H Q0 I h0) fun us s1 ⟨xs, H1, I1, r, q⟩ => ⟨xs, H1, I1, r, hi _ _ q⟩⟩
theorem pe_imp (h : PE X e t) (k : ∀ σ H Q, t' σ H Q → t σ H Q) : PE X e t' := ⟨fun pins s σ H Q I q => h.run pins s σ H Q I (k σ H Q q)⟩
def tLstN (t : TA) : TE := fun σ H Q => t σ H fun xs H1 => xs.length ≤ sizeLine ∧ NewO (.lst xs) Q H1
def tTupN (t : TA) : TE := fun σ H Q => t σ H fun xs H1 => xs.length ≤ sizeLine ∧ NewO (.tup xs) Q H1
theorem pe_lstN (h : PA X es ta) : PE X (.List es pos) (tLstN ta) := pe_imp (pe_lst (pa_m h)) fun σ H Q q => ⟨_, q, fun xs H1 z => ⟨z.1, z.2.all⟩⟩
theorem pe_tupN {x1} (h : PA X es ta) : PE X (.Tuple es x1 pos) (tTupN ta) := pe_imp (pe_tup (pa_m h)) fun σ H Q q => ⟨_, q, fun xs H1 z => ⟨z.1, z.2.all⟩⟩
theorem pe_dnewN : PE X (.Dict [] [] pos) (fun _ H Q => NewO (.dK []) Q H) := pe_imp pe_dnewK fun σ H Q q => q.all
def rSetN : V → V → V → Hp → (Hp → Prop) → Prop := fun o i v H Q => ∃ p xs k j, o = .ref p ∧ i = .int k ∧ H p = some (.lst xs) ∧ ixN xs.length k = some j ∧ MutO p (.lst (xs.set j v)) Q H
theorem set_listN : PSet X rSetN := fun pins s σ H o i v ov iv u Q I ro ri rv h => by
  obtain ⟨p, xs, k, j, e1, e2, hp, hj, q⟩ := h
  exact set_list pins s σ H o i v ov iv u Q I ro ri rv ⟨p, xs, k, j, e1, e2, hp, hj, q.at⟩
def rSlN (K : PySem.W.Frag) : V → Option Int → Option Int → Hp → VK → Prop := fun x lo hi H Q => ∃ a xs, x = .ref a ∧ SqL K H a xs ∧ NewO (.lst (cutV xs lo hi)) Q H
theorem sl_listN : SlR X (rSlN X.K) := fun pins s σ H x v vl vu lo hi sl Q I rx hs pl pu h => by
  obtain ⟨a, xs, e, hx, q⟩ := h
  exact sl_list pins s σ H x v vl vu lo hi sl Q I rx hs pl pu ⟨a, xs, e, hx, q.all⟩
def rCatN : R2 := fun x y H Q => ∃ l b xs zs, x = .ref l ∧ y = .ref b ∧ H l = some (.lst xs) ∧ H b = some (.lst zs) ∧ xs.length + zs.length ≤ sizeLine ∧ NewO (.lst (xs ++ zs)) Q H
theorem op_catN : OpR X (binaryOp .Add) rCatN := fun pins s σ H x y v u Q I rx ry h => by
  obtain ⟨l, b, xs, zs, e1, e2, hl, hb, hz, q⟩ := h
  exact op_cat pins s σ H x y v u Q I rx ry ⟨l, b, xs, zs, e1, e2, hl, hb, hz, q.all⟩
def rAppN : V → List V → Hp → VK → Prop := fun x vs H Q => ∃ l xs y, x = .ref l ∧ vs = [y] ∧ H l = some (.lst xs) ∧ xs.length < sizeLine ∧ MutO l (.lst (xs ++ [y])) (Q .non) H
theorem mt_appN : MtR X "list.append" rAppN := fun pins s σ H x xs v us Q I rx rv h => by
  obtain ⟨l, ys, y, e1, e2, hl, hz, q⟩ := h
  exact mt_append pins s σ H x xs v us Q I rx rv ⟨l, ys, y, e1, e2, hl, hz, q.at⟩
def rSplN : V → List V → Hp → VK → Prop := fun x xs H Q => ∃ a b, x = .str a ∧ xs = [.str b] ∧ (b.length == 0) = false ∧ a.length + 2 ≤ sizeLine ∧ NewO (.lst ((Txt.split a b).map V.str)) Q H
theorem mt_splN : MtR X "str.split" rSplN := fun pins s σ H x xs v us Q I rx rv h => by
  obtain ⟨a, b, e1, e2, h1, h2, q⟩ := h
  exact mt_split pins s σ H x xs v us Q I rx rv ⟨a, b, e1, e2, h1, h2, q.all⟩
def rLofN (K : PySem.W.Frag) : List V → Hp → VK → Prop := fun xs H Q => ∃ p ys, xs = [.ref p] ∧ (SqL K H p ys ∨ SqT K H p ys) ∧ NewO (.lst ys) Q H
theorem call_lofN : CallR X (.type "list") (rLofN X.K) := fun pins s σ H xs us Q I r h => by
  obtain ⟨p, ys, e, hs, q⟩ := h
  exact call_list_of pins s σ H xs us Q I r ⟨p, ys, e, hs, q.all⟩
end
/-! ### calls with keywords of a def without defaults by place -/
section
variable {K : PySem.W.Frag} {x qual : Str} {params : Arguments} {body : List Stmt} {scope : Scope} {kws : List (Str × V)} {f : Addr} {fd : FuncData} {ps : List Str}
theorem kb0 (F : FunD K x qual params body scope [] kws f fd) (n : Nat) (ks : List Str) (ms : List (Str × V)) (g : {α : Type} → List α → List α → List α → List α) (hk : kws ≠ []) (hms : ∀ q ∈ ms, q ∈ kws)
    (hrel : ∀ {vs mz zs : List V} {us mv ws : List Value}, Vals vs us → Vals mz mv → Vals zs ws → Vals (g vs mz zs) (g us mv ws))
    (h : ∀ (D : Addr) (doc pm : Value) (an : Option Addr) (cdv ct : Value) (us mv ws : List Value), us.length = n → mv.length = ms.length → ws.length = ks.length →
      KwChain D ((ms.map (·.1)).zip mv) (bindArgs (PySem.W.fnOf x qual params body scope .none (.ref D) doc pm an cdv ct) ⟨us, ks.zip ws⟩) (ps.zip (g us mv ws))) :
    ∃ mv : List Value, KBn K fd ps n ks (fun us ws => g us mv ws) (fun vs zs => g vs (ms.map (·.2)) zs) := by
  obtain ⟨oc, od, dV, kV, doc, pm, an, cdv, ct, osl, rfl, lk, hcd, hD, hK⟩ := F.ex
  rcases hD with ⟨_, rfl⟩ | ⟨e, _⟩
  · rcases hK with e | ⟨D, rfl, hq⟩
    · exact absurd e hk
    · obtain ⟨mv, hl, rk, hks⟩ := kwd_vals (ms := ms) fun q hm => hq q (hms q hm)
      exact ⟨mv, fun s us ws X l1 l2 => BindsTo.of_looks fun M => KwChain.looks X hks (h D doc pm an cdv ct us mv ws l1 hl l2), fun r1 r2 => hrel r1 rk r2⟩
  · exact absurd rfl e
end
section
variable {X : Cx} {CX : CXT} {k : Nat} {f : Addr} {fd : FuncData} {ps ks : List Str} {sp : Sp} {E : XK} {x : Str} {p pos : Pos} {kws : List Keyword} {tk : TA} {g : List Value → List Value → List Value} {gV : List V → List V → List V}
theorem pe_callN0 (F : FnOk X.prog X.w X.K X.mg X.base CX k f fd ps sp) (hr : Room k X.A) (hg : Gl X x) (hm : X.mg x = some (.ref f)) (hk : PySem.W.keepIn X.K (.ref f) = true) (hb : KBn X.K fd ps 0 ks g gV) (hx : Passes CX X E) (hkw : PK X kws tk)
    (hall : (backToKw pos (keywordEach kws X.env)).all (·.1.isSome) = true := by rfl) (hks : (backToKw pos (keywordEach kws X.env)).filterMap (·.1) = ks := by rfl) (hdb : (x == ("__debug__" : Str)) = false := by decide)
    (hpl : ((backTo pos (starEach [] X.env)).any (·.1) || (backToKw pos (keywordEach kws X.env)).any (·.1.isNone)) = false := by rfl) : PE X (.Call (.Name x p) [] kws pos) (tCallN 0 ks.length sp gV E tNil tk) := ⟨fun pins s σ H Q I h => by
  refine wpAny_Call_Name_kw (ld_glob I hg hm (PySem.W.callWith_KW0 (h₀ := X.base) I.ok.mod.kin hk hall ?_ hpl) hdb)
  refine thn (hkw.run pos pins s σ H _ I h) fun ws s2 hz => ?_
  obtain ⟨zs, H2, I2, rz, l1, l2, q2⟩ := hz
  refine ⟨I2.kIn, ?_⟩
  rw [hks]
  exact run_fnN (us := []) (vs := []) F hr hb hx I2 .nil rz rfl l2 q2⟩
end
/-! ### tests -/
section
variable {A B : Prop}
theorem ifT {b : Bool} (h : b = true) (a : A) : if b = true then A else B := by rw [if_pos h]; exact a
theorem ifF {b : Bool} (h : b = false) (a : B) : if b = true then A else B := by rw [h, if_neg Bool.false_ne_true]; exact a
theorem ifB {b : Bool} (h1 : b = true → A) (h2 : b = false → B) : if b = true then A else B := by
  cases b
  · exact ifF rfl (h2 rfl)
  · exact ifT rfl (h1 rfl)
theorem ifNB {b : Bool} (h1 : b = false → A) (h2 : b = true → B) : if (!b) = true then A else B := by
  cases b
  · exact ifT rfl (h1 rfl)
  · exact ifF rfl (h2 rfl)
theorem ifD {p : Prop} [Decidable p] (h1 : p → A) (h2 : ¬ p → B) : if decide p = true then A else B := by
  by_cases h : p
  · exact ifT (decide_eq_true h) (h1 h)
  · exact ifF (decide_eq_false h) (h2 h)
theorem ifN {p : Prop} [Decidable p] (h1 : ¬ p → A) (h2 : p → B) : if (!decide p) = true then A else B := by
  by_cases h : p
  · exact ifF (by rw [decide_eq_true h]; rfl) (h2 h)
  · exact ifT (by rw [decide_eq_false h]; rfl) (h1 h)
theorem ifQ {b : Bool} {p : Prop} [Decidable p] (h : b = decide p) (h1 : p → A) (h2 : ¬ p → B) : if b = true then A else B := by
  rw [h]
  exact ifD h1 h2
theorem ifVI {i j : Int} (h1 : i = j → A) (h2 : i ≠ j → B) : if decide (V.int i = V.int j) = true then A else B := ifD (fun h => h1 (V.int.inj h)) fun h => h2 fun e => h (by rw [e])
theorem ifVIn {i j : Int} (h1 : i ≠ j → A) (h2 : i = j → B) : if (!decide (V.int i = V.int j)) = true then A else B := ifN (fun h => h1 fun e => h (by rw [e])) fun h => h2 (V.int.inj h)
theorem ifVS {i j : Str} (h1 : i = j → A) (h2 : i ≠ j → B) : if decide (V.str i = V.str j) = true then A else B := ifD (fun h => h1 (V.str.inj h)) fun h => h2 fun e => h (by rw [e])
theorem ifVSn {i j : Str} (h1 : i ≠ j → A) (h2 : i = j → B) : if (!decide (V.str i = V.str j)) = true then A else B := ifN (fun h => h1 fun e => h (by rw [e])) fun h => h2 (V.str.inj h)
end
/-! ### isinstance -/
theorem isi {K : PySem.W.Frag} {H : Hp} {Q : VK} {x : V} {t c : String} {b : Bool} (ty : TyX K H x (.type t)) (k : kitB t c = some b) (q : Q (.bl b) H) : rIsi K [x, .ty c] H Q := ⟨x, .ty c, .type t, .type c, b, rfl, .ty c, ty, kit_ty k, q⟩
theorem call_isiK {X : Cx} {K : PySem.W.Frag} (h : X.K = K) : CallR X (.builtin "isinstance") (rIsi K) := h ▸ call_isi
theorem ki_int_str : kitB "int" "str" = some false := by decide +kernel
theorem ki_int_int : kitB "int" "int" = some true := by decide +kernel
theorem ki_int_bool : kitB "int" "bool" = some false := by decide +kernel
theorem ki_int_list : kitB "int" "list" = some false := by decide +kernel
theorem ki_int_tuple : kitB "int" "tuple" = some false := by decide +kernel
theorem ki_int_dict : kitB "int" "dict" = some false := by decide +kernel
theorem ki_str_str : kitB "str" "str" = some true := by decide +kernel
theorem ki_str_int : kitB "str" "int" = some false := by decide +kernel
theorem ki_str_bool : kitB "str" "bool" = some false := by decide +kernel
theorem ki_str_list : kitB "str" "list" = some false := by decide +kernel
theorem ki_str_tuple : kitB "str" "tuple" = some false := by decide +kernel
theorem ki_str_dict : kitB "str" "dict" = some false := by decide +kernel
theorem ki_bl_str : kitB "bool" "str" = some false := by decide +kernel
theorem ki_bl_int : kitB "bool" "int" = some true := by decide +kernel
theorem ki_bl_bool : kitB "bool" "bool" = some true := by decide +kernel
theorem ki_bl_list : kitB "bool" "list" = some false := by decide +kernel
theorem ki_bl_tuple : kitB "bool" "tuple" = some false := by decide +kernel
theorem ki_bl_dict : kitB "bool" "dict" = some false := by decide +kernel
theorem ki_non_str : kitB "NoneType" "str" = some false := by decide +kernel
theorem ki_non_int : kitB "NoneType" "int" = some false := by decide +kernel
theorem ki_non_bool : kitB "NoneType" "bool" = some false := by decide +kernel
theorem ki_non_list : kitB "NoneType" "list" = some false := by decide +kernel
theorem ki_non_tuple : kitB "NoneType" "tuple" = some false := by decide +kernel
theorem ki_non_dict : kitB "NoneType" "dict" = some false := by decide +kernel
theorem ki_lst_str : kitB "list" "str" = some false := by decide +kernel
theorem ki_lst_int : kitB "list" "int" = some false := by decide +kernel
theorem ki_lst_bool : kitB "list" "bool" = some false := by decide +kernel
theorem ki_lst_list : kitB "list" "list" = some true := by decide +kernel
theorem ki_lst_tuple : kitB "list" "tuple" = some false := by decide +kernel
theorem ki_lst_dict : kitB "list" "dict" = some false := by decide +kernel
theorem ki_tup_str : kitB "tuple" "str" = some false := by decide +kernel
theorem ki_tup_int : kitB "tuple" "int" = some false := by decide +kernel
theorem ki_tup_bool : kitB "tuple" "bool" = some false := by decide +kernel
theorem ki_tup_list : kitB "tuple" "list" = some false := by decide +kernel
theorem ki_tup_tuple : kitB "tuple" "tuple" = some true := by decide +kernel
theorem ki_tup_dict : kitB "tuple" "dict" = some false := by decide +kernel
theorem ki_dK_str : kitB "dict" "str" = some false := by decide +kernel
theorem ki_dK_int : kitB "dict" "int" = some false := by decide +kernel
theorem ki_dK_bool : kitB "dict" "bool" = some false := by decide +kernel
theorem ki_dK_list : kitB "dict" "list" = some false := by decide +kernel
theorem ki_dK_tuple : kitB "dict" "tuple" = some false := by decide +kernel
theorem ki_dK_dict : kitB "dict" "dict" = some true := by decide +kernel
/-- the generator of a law's numbers: at b a list of three numbers, the last at most n -/
def bagO (x y z : Int) : HO := .lst [.int x, .int y, .int z]
structure BagOk (n : Nat) (x y z : Int) : Prop where
  x0 : 0 ≤ x
  y0 : 0 ≤ y
  y1 : y < 2147483648
  z0 : 0 ≤ z
  z1 : z ≤ (n : Int)
theorem BagOk.mono {n m : Nat} {x y z : Int} (h : BagOk n x y z) (e : n ≤ m) : BagOk m x y z := ⟨h.x0, h.y0, h.y1, h.z0, by have := h.z1; omega⟩
/-- take(bag, k): a number below k; the bag is changed, by one count at the most -/
def spTake : Sp := fun vs H Q _ => ∃ (b : Addr) (k : Int) (n : Nat) (x y z : Int), vs = [.ref b, .int k] ∧ H b = some (bagO x y z) ∧ BagOk n x y z ∧ n < 1000000 ∧ 0 < k ∧ k < 1073741824 ∧
  ∀ (d x' y' z' : Int) (H' : Hp), 0 ≤ d → d < k → BagOk (n + 1) x' y' z' → Keep [b] H H' → H' b = some (bagO x' y' z') → Q (.int d) H'
theorem atI_in {α : Type} {xs : List α} {d : Int} (h0 : 0 ≤ d) (h1 : d < (xs.length : Int)) : ∃ v, atI xs d = some v ∧ v ∈ xs := by
  obtain ⟨k, rfl⟩ := Int.eq_ofNat_of_zero_le h0
  have hk : k < xs.length := by omega
  exact ⟨xs[k], atI_nat (List.getElem?_eq_getElem hk), List.getElem_mem hk⟩
theorem size_ok {n : Nat} (h : n ≤ 1000000) : n < sizeLine := Nat.lt_of_le_of_lt h (by decide)
theorem size_le {n : Nat} (h : n ≤ 1000000) : n ≤ sizeLine := Nat.le_of_lt (size_ok h)
/-! ### texts by their codes -/
theorem len_app (x y : Str) : (x ++ y).length = x.length + y.length := by rw [len_tl, len_tl, len_tl, tl_append, List.length_append]
theorem joinL_nil : ∀ ps : List (List Nat), joinL [] ps = ps.flatten
  | [] => rfl
  | [p] => by simp [joinL]
  | p :: q :: r => by
    have ih := joinL_nil (q :: r)
    show p ++ ([] ++ joinL [] (q :: r)) = _
    rw [ih]
    simp
theorem tl_joinE (ss : List Str) : tl (Txt.join (Str.ofString "") ss) = (ss.map tl).flatten := by
  rw [join_eq, tl_join, show tl (Str.ofString "") = [] by decide +kernel, joinL_nil]
theorem sum_one : ∀ {ss : List Str}, (∀ s ∈ ss, s.length = 1) → (ss.map (·.length)).sum = ss.length
  | [], _ => rfl
  | s :: r, h => by
    rw [List.map_cons, List.sum_cons, sum_one fun t ht => h t (List.mem_cons_of_mem _ ht), h s List.mem_cons_self, List.length_cons]
    omega
theorem flat_one : ∀ {ss : List Str}, (∀ s ∈ ss, s.length = 1) → (ss.map tl).flatten.length = ss.length
  | [], _ => rfl
  | s :: r, h => by
    have h1 := h s List.mem_cons_self
    rw [len_tl] at h1
    rw [List.map_cons, List.flatten_cons, List.length_append, flat_one fun t ht => h t (List.mem_cons_of_mem _ ht), List.length_cons, h1]
    omega
theorem join_one {ss : List Str} (h : ∀ s ∈ ss, s.length = 1) : (Txt.join (Str.ofString "") ss).length = ss.length := by rw [len_tl, tl_joinE, flat_one h]
theorem tl_cutS (z : Str) (lo hi : Option Int) : tl (cutS z lo hi) = ((tl z).drop (HT.sIx z.length 0 lo)).take (HT.sIx z.length z.length hi - HT.sIx z.length 0 lo) := rfl
theorem cutS_len (z : Str) (lo hi : Option Int) : (cutS z lo hi).length ≤ z.length := by
  rw [len_tl, tl_cutS, List.length_take, List.length_drop, len_tl z]
  omega
theorem starts_one (x : Str) (c : Nat) : Txt.startswith x ⟨#[c]⟩ = true ↔ (tl x)[0]? = some c := by
  unfold Txt.startswith
  rw [Bool.and_eq_true, decide_eq_true_eq]
  exact PySem.StrLaws.subAt_one x c 0
/-! ### texts of plain signs -/
def Asc (s : Str) : Prop := ∀ c ∈ tl s, c < 128
theorem Asc.app {x y : Str} (a : Asc x) (b : Asc y) : Asc (x ++ y) := fun c hc => by
  rw [tl_append] at hc
  rcases List.mem_append.mp hc with h | h
  · exact a c h
  · exact b c h
theorem Asc.cut {x : Str} (a : Asc x) (lo hi : Option Int) : Asc (cutS x lo hi) := fun c hc => a c (List.mem_of_mem_drop (List.mem_of_mem_take (by rw [tl_cutS] at hc; exact hc)))
theorem Asc.one {c : Nat} (h : c < 128) : Asc ⟨#[c]⟩ := fun d hd => by
  have : d = c := by simpa using hd
  omega
theorem Asc.of {x : Str} (h : (tl x).all (fun c => decide (c < 128)) = true) : Asc x := fun c hc => by simpa using List.all_eq_true.mp h c hc
theorem Asc.joined {S : List Nat} : ∀ {ps : List (List Nat)}, (∀ c ∈ S, c < 128) → (∀ p ∈ ps, ∀ c ∈ p, c < 128) → ∀ c ∈ joinL S ps, c < 128
  | [], _, _, c, h => by simp [joinL] at h
  | [p], _, hp, c, h => hp p List.mem_cons_self c h
  | p :: q :: r, hS, hp, c, h => by
    rcases List.mem_append.mp (show c ∈ p ++ (S ++ joinL S (q :: r)) from h) with h | h
    · exact hp p List.mem_cons_self c h
    · rcases List.mem_append.mp h with h | h
      · exact hS c h
      · exact Asc.joined hS (fun t ht => hp t (List.mem_cons_of_mem _ ht)) c h
theorem Asc.join {y : Str} {ss : List Str} (a : Asc y) (h : ∀ s ∈ ss, Asc s) : Asc (Txt.join y ss) := by
  unfold Asc
  rw [join_eq, tl_join]
  refine Asc.joined a fun p hp => ?_
  obtain ⟨s, hs, rfl⟩ := List.mem_map.mp hp
  exact h s hs
theorem joinL_len (S : List Nat) : ∀ (ps : List (List Nat)), (joinL S ps).length ≤ (ps.map (·.length)).sum + ps.length * S.length
  | [] => by simp [joinL]
  | [p] => by simp [joinL]
  | p :: q :: r => by
    have ih := joinL_len S (q :: r)
    show (p ++ (S ++ joinL S (q :: r))).length ≤ _
    rw [List.length_append, List.length_append, List.map_cons, List.sum_cons, List.length_cons, Nat.add_one_mul]
    omega
theorem join_len (y : Str) (ss : List Str) : (Txt.join y ss).length ≤ (ss.map (·.length)).sum + ss.length * y.length := by
  have h := joinL_len (tl y) (ss.map tl)
  rw [join_eq, len_tl, tl_join, len_tl y]
  rw [List.length_map, List.map_map] at h
  rw [show ss.map (fun x => x.length) = ss.map ((fun x => x.length) ∘ tl) from List.map_congr_left fun s _ => len_tl s]
  exact h
theorem sum_le {ss : List Str} {k : Nat} (h : ∀ s ∈ ss, s.length ≤ k) : (ss.map (·.length)).sum ≤ ss.length * k := by
  induction ss with
  | nil => simp
  | cons s r ih =>
    rw [List.map_cons, List.sum_cons, List.length_cons, Nat.add_one_mul]
    have h1 := h s List.mem_cons_self
    have h2 := ih fun t ht => h t (List.mem_cons_of_mem _ ht)
    omega
theorem str_ok {s : Str} (a : Asc s) : PyData.strOk s = true := by
  unfold PyData.strOk
  rw [show s.cps.all (fun x => decide (x < 0x110000)) = (tl s).all (fun x => decide (x < 0x110000)) by simp]
  exact List.all_eq_true.mpr fun c hc => decide_eq_true (Nat.lt_trans (a c hc) (by decide))
def dStrs (ws : List Str) : PyData := .list (ws.map .str)
theorem lay_strs : ∀ {ws : List Str}, (∀ s ∈ ws, Asc s) → PyData.canLayAll0 (ws.map .str) = true
  | [], _ => rfl
  | s :: r, h => by
    rw [List.map_cons, PyData.canLayAll0, PyData.canLay0, str_ok (h s List.mem_cons_self), lay_strs fun t ht => h t (List.mem_cons_of_mem _ ht)]
    rfl
theorem depth_strs : ∀ ws : List Str, PyData.depthAll (ws.map .str) = 0
  | [] => rfl
  | s :: r => by rw [List.map_cons, PyData.depthAll, PyData.depth, depth_strs r]; rfl
theorem shaped_strs {ws : List Str} (h : ∀ s ∈ ws, Asc s) : SeqAt.shaped (dStrs ws) = true := by
  unfold SeqAt.shaped dStrs
  rw [PyData.canLay0, lay_strs h, PyData.depth, depth_strs]
  rfl
theorem dpAll_strs {K : PySem.W.Frag} {H : Hp} : ∀ ws : List Str, DpAll K H (ws.map V.str) (ws.map .str)
  | [] => .nil
  | s :: r => .cons (.str s) (dpAll_strs r)
theorem dp_strs {K : PySem.W.Frag} {H : Hp} {a : Addr} {ws : List Str} (h : SqL K H a (ws.map V.str)) : Dp K H (.ref a) (dStrs ws) := .lst h (dpAll_strs ws)
theorem eqv_strs : ∀ ws : List Str, PyData.eqvAll (ws.map .str) (ws.map .str) = true
  | [] => rfl
  | s :: r => by rw [List.map_cons, PyData.eqvAll, eqv_strs r, PyData.eqv]; simp
theorem eqv_dstrs (ws : List Str) : PyData.eqv (dStrs ws) (dStrs ws) = true := by
  unfold dStrs
  rw [PyData.eqv, eqv_strs]
theorem in_strs (x : Str) : ∀ ws : List Str, inV (.str x) (ws.map V.str) = decide (x ∈ ws)
  | [] => rfl
  | s :: r => by
    have ih := in_strs x r
    unfold inV at ih ⊢
    rw [List.map_cons, List.any_cons, ih]
    show ((s == x) || decide (x ∈ r)) = _
    by_cases h : s = x
    · subst h; simp
    · simp [h, Ne.symm h]
theorem flat_strs (ws : List Str) : (ws.map V.str).all flatV = true := by
  rw [List.all_map]
  exact List.all_eq_true.mpr fun _ _ => rfl
/-- keywords at a call of a def without defaults -/
theorem kbF {K : PySem.W.Frag} {x qual : Str} {st : Stmt} {f : Addr} {fd : FuncData} {ps : List Str} (F : Fun K x qual st f fd) (n : Nat) (ks : List Str) (g : {α : Type} → List α → List α → List α)
    (hrel : ∀ {vs zs : List V} {us ws : List Value}, Vals vs us → Vals zs ws → Vals (g vs zs) (g us ws))
    (h : ∀ (kV doc pm : Value) (an : Option Addr) (cdv ct : Value) (us ws : List Value), us.length = n → ws.length = ks.length →
      bindArgs (PySem.W.fnOf x qual (defArgs st) (defBody st) (defScope st) .none kV doc pm an cdv ct) ⟨us, ks.zip ws⟩ = pure (ps.zip (g us ws))) : KBn K fd ps n ks (fun us ws => g us ws) (fun vs zs => g vs zs) := by
  obtain ⟨oc, od, kV, doc, pm, an, cdv, ct, osl, rfl, lk, hcd⟩ := F.ex
  exact ⟨fun s us ws X l1 l2 => .of_eq (h kV doc pm an cdv ct us ws l1 l2), fun r1 r2 => hrel r1 r2⟩
/-- isinstance(x, (a, b)) -/
theorem kit2 {K : PySem.W.Frag} {t a b : String} {r1 r2 : Bool} (h1 : kitB t a = some r1) (h2 : kitB t b = some r2) : PySem.W.kitAny K (.type t) [.type a, .type b] = some (r1 || r2) := by
  refine kitAny_cons (kit_ty h1) (fun e => ?_) (fun e => by rw [e]; rfl)
  subst e
  refine kitAny_cons (kit_ty h2) (fun e => by rw [e]; rfl) (fun e => by rw [e]; rfl)
theorem eqv_nil : ∀ ws : List Str, PyData.eqv (dStrs ws) (dStrs []) = decide (ws = [])
  | [] => rfl
  | s :: r => rfl
/-! ### signs as texts -/
def sg (l : List Nat) : List Str := l.map fun d => ⟨#[d]⟩
theorem sg_one {l : List Nat} : ∀ s ∈ sg l, s.length = 1 := fun s hs => by
  obtain ⟨d, _, rfl⟩ := List.mem_map.mp hs
  rfl
theorem sg_len (l : List Nat) : (sg l).length = l.length := List.length_map _
theorem sg_asc {l : List Nat} (h : ∀ c ∈ l, c < 128) : ∀ s ∈ sg l, Asc s := fun s hs => by
  obtain ⟨d, hd, rfl⟩ := List.mem_map.mp hs
  exact Asc.one (h d hd)
theorem tl_join_sg : ∀ l : List Nat, ((sg l).map tl).flatten = l
  | [] => rfl
  | c :: r => by
    have ih := tl_join_sg r
    show ([c] ++ ((sg r).map tl).flatten) = c :: r
    rw [ih]
    rfl
theorem sg_app (l : List Nat) (c : Nat) : (sg (l ++ [c])).map V.str = (sg l).map V.str ++ [.str ⟨#[c]⟩] := by
  unfold sg
  rw [List.map_append, List.map_append]
  rfl
theorem chr_inj {c d : Nat} (h : (⟨#[c]⟩ : Str) = ⟨#[d]⟩) : c = d := by
  have := congrArg tl h
  simpa using this
theorem ifC {A B : Prop} {c d : Nat} (h1 : c = d → A) (h2 : c ≠ d → B) : if decide (V.str ⟨#[c]⟩ = V.str ⟨#[d]⟩) = true then A else B := ifVS (fun h => h1 (chr_inj h)) fun h => h2 fun e => h (by rw [e])
theorem ifCn {A B : Prop} {c d : Nat} (h1 : c ≠ d → A) (h2 : c = d → B) : if (!decide (V.str ⟨#[c]⟩ = V.str ⟨#[d]⟩)) = true then A else B := ifVSn (fun h => h1 fun e => h (by rw [e])) fun h => h2 (chr_inj h)
theorem filt_in {pre : List Nat} {c d : Nat} (h : d ≠ c) : (pre ++ [d]).filter (fun x => decide (x ≠ c)) = pre.filter (fun x => decide (x ≠ c)) ++ [d] := by
  rw [List.filter_append, List.filter_cons, if_pos (by simpa using h)]
  rfl
theorem filt_out {pre : List Nat} {c d : Nat} (h : d = c) : (pre ++ [d]).filter (fun x => decide (x ≠ c)) = pre.filter (fun x => decide (x ≠ c)) := by
  rw [List.filter_append, List.filter_cons, if_neg (by simpa using h)]
  simp
theorem filt_asc {l : List Nat} {p : Nat → Bool} (h : ∀ c ∈ l, c < 128) : ∀ c ∈ l.filter p, c < 128 := fun c hc => h c (List.mem_filter.mp hc).1
theorem tl_joined_sg (l : List Nat) : tl (Txt.join (Str.ofString "") (sg l)) = l := by rw [tl_joinE, tl_join_sg]
/-! ### a text split at a sign -/
theorem split_tl (s : Str) {c : Nat} (h : c < 256) : (Txt.split s ⟨#[c]⟩).map tl = spl [c] 0 [] (tl s) := split_spl s ⟨#[c]⟩ (by simp) (kind_ok (by simpa using h))
theorem spl_asc : ∀ (l acc : List Nat) (c : Nat), (∀ d ∈ l, d < 128) → (∀ d ∈ acc, d < 128) → ∀ p ∈ spl [c] 0 acc l, ∀ d ∈ p, d < 128
  | [], acc, c, _, ha, p, hp, d, hd => by
    rw [spl_nil] at hp
    rw [List.mem_singleton.mp hp] at hd
    exact ha d hd
  | x :: r, acc, c, hl, ha, p, hp, d, hd => by
    have hr : ∀ d ∈ r, d < 128 := fun d h => hl d (List.mem_cons_of_mem _ h)
    by_cases e : pre [c] (x :: r) = true
    · rw [spl_hit e] at hp
      rcases List.mem_cons.mp hp with rfl | hp
      · exact ha d hd
      · exact spl_asc r [] c hr (fun _ h => by simp at h) p hp d hd
    · rw [spl_miss (by simpa using e)] at hp
      refine spl_asc r (acc ++ [x]) c hr (fun d h => ?_) p hp d hd
      rcases List.mem_append.mp h with h | h
      · exact ha d h
      · rw [List.mem_singleton.mp h]; exact hl x List.mem_cons_self
theorem split_asc {s : Str} {c : Nat} (h : c < 256) (a : Asc s) : ∀ w ∈ Txt.split s ⟨#[c]⟩, Asc w := fun w hw => by
  have : tl w ∈ (Txt.split s ⟨#[c]⟩).map tl := List.mem_map_of_mem hw
  rw [split_tl s h] at this
  exact spl_asc (tl s) [] c a (fun _ h => by simp at h) _ this
theorem spl_len : ∀ (l acc : List Nat) (c : Nat), (spl [c] 0 acc l).length ≤ l.length + 1
  | [], acc, c => by rw [spl_nil]; simp
  | x :: r, acc, c => by
    by_cases e : pre [c] (x :: r) = true
    · rw [spl_hit e, List.length_cons, List.length_cons]
      have := spl_len r [] c
      exact Nat.succ_le_succ this
    · rw [spl_miss (by simpa using e), List.length_cons]
      have := spl_len r (acc ++ [x]) c
      omega
theorem split_len {s : Str} {c : Nat} (h : c < 256) : (Txt.split s ⟨#[c]⟩).length ≤ s.length + 1 := by
  have := spl_len (tl s) [] c
  rw [← split_tl s h, List.length_map] at this
  rw [len_tl]
  exact this
theorem pre_one {c x : Nat} {r : List Nat} : pre [c] (x :: r) = decide (x = c) := by
  unfold pre
  by_cases h : x = c <;> simp [h]
/-! ### text * number -/
theorem op_mul_str {X : Cx} : OpR X (binaryOp .Mult) (fun x y H Q => ∃ i j, x = .str i ∧ y = .int j ∧ (0 ≤ j ∧ j ≤ 10000 ∧ i.length ≤ 1000) ∧ Q (.str (Txt.mul i j)) H) := fun pins s σ H x y v u Q I rx ry h => by
  obtain ⟨i, j, rfl, rfl, ⟨h0, h1, h2⟩, q⟩ := h
  obtain ⟨t, rfl⟩ := rx
  obtain ⟨t', rfl⟩ := ry
  refine SB.mul ⟨?_, fun h3 h4 => ?_, fun h3 h4 => ?_⟩ fun t' k => ⟨.str (Txt.mul i j), H, I.tok _, ⟨_, rfl⟩, q⟩
  · simp
    omega
  · have h5 : (i.length : Int) * j ≤ 1000 * 10000 := Int.mul_le_mul (by omega) h1 h0 (by decide)
    have h6 : (i.length : Int) ≤ (2 ^ 63 - 1) / j := Int.le_ediv_of_mul_le (by omega) (by omega)
    omega
  · have h5 : i.length * j.toNat ≤ 1000 * 10000 := Nat.mul_le_mul h2 (by omega)
    have h6 : i.length * j.toNat ≤ sizeLine := Nat.le_trans h5 (by decide)
    unfold Builtin.Str.tooLong
    exact decide_eq_false (by omega)
theorem fold_cps (a : Array Nat) : ∀ (k : Nat) (acc : Array Nat), ((List.replicate k a).foldl (fun x y => x ++ y) acc).toList = acc.toList ++ (List.replicate k a.toList).flatten
  | 0, acc => by simp
  | k + 1, acc => by
    rw [List.replicate_succ, List.foldl_cons, fold_cps a k, List.replicate_succ, List.flatten_cons, Array.toList_append, List.append_assoc]
theorem flat_nil : ∀ k : Nat, (List.replicate k ([] : List Nat)).flatten = []
  | 0 => rfl
  | k + 1 => by rw [List.replicate_succ, List.flatten_cons, flat_nil k]; rfl
theorem tl_mul (x : Str) (n : Int) : tl (Txt.mul x n) = (List.replicate n.toNat (tl x)).flatten := by
  unfold Txt.mul
  split
  · rename_i h
    rw [show n.toNat = 0 by omega]
    rfl
  · split
    · rename_i h1 h2
      rcases Bool.or_eq_true_iff.mp h2 with h | h
      · have : n = 1 := by simpa using h
        subst this
        simp
      · have h3 : x.length = 0 := by simpa using h
        rw [len_tl] at h3
        rw [List.length_eq_zero_iff.mp h3, flat_nil]
    · show ((List.replicate n.toNat x.cps).foldl (fun x y => x ++ y) #[]).toList = _
      rw [fold_cps]
      rfl
theorem mul_len (x : Str) (n : Int) : (Txt.mul x n).length = x.length * n.toNat := by
  rw [len_tl, tl_mul, List.length_flatten, List.map_replicate, List.sum_replicate_nat, len_tl, Nat.mul_comm]
theorem Asc.mul {x : Str} (a : Asc x) (n : Int) : Asc (Txt.mul x n) := fun c hc => by
  rw [tl_mul] at hc
  obtain ⟨l, hl, hc⟩ := List.mem_flatten.mp hc
  rw [List.eq_of_mem_replicate hl] at hc
  exact a c hc
/-! ### loops by what is behind -/
section
variable {g : TG} {tb : TS} {D : Ends} {σ : L2.St} {H : Hp}
theorem for_str {s : Str} (Pv : List Nat → L2.St → Hp → Prop) (h0 : Pv [] σ H)
    (hs : ∀ pre c post σ H, tl s = pre ++ c :: post → Pv pre σ H → g (.str ⟨#[c]⟩) σ H fun σ2 H2 => tb { D with nx := Pv (pre ++ [c]), ct := Pv (pre ++ [c]), bk := D.nx } σ2 H2) (hd : ∀ σ H, Pv (tl s) σ H → D.nx σ H) :
    ∃ W : Nat → Nat → L2.St → Hp → Prop, (∃ m, W 0 m σ H) ∧ ∀ i m σ H, W i m σ H →
      ((Its s).stop i H ∧ D.nx σ H) ∨ ((Its s).go i H ∧ ∃ N : L2.St → Hp → Prop, (∀ σ' H', N σ' H' → ∃ m', m' < m ∧ W (i + 1) m' σ' H') ∧ ∀ x H', (Its s).yld i H x H' → g x σ H' fun σ2 H2 => tb { D with nx := N, ct := N, bk := D.nx } σ2 H2) := by
  have hsz : s.cps.size = (tl s).length := by simp
  refine for_it walk_str (fun i σ H => Pv ((tl s).take i) σ H) (by simpa using h0) (fun _ _ _ _ _ => True.intro) ?_ (fun σ H p => hd σ H (by rw [hsz, List.take_length] at p; exact p))
  rintro i x σ H H' hi p ⟨rfl, c, hc, rfl⟩
  have hc' : (tl s)[i]? = some c := by simpa using hc
  have hl : i < (tl s).length := by omega
  have e : tl s = (tl s).take i ++ c :: (tl s).drop (i + 1) := by
    have h2 : (tl s)[i] = c := by rw [List.getElem?_eq_getElem hl] at hc'; exact Option.some.inj hc'
    rw [← h2, ← List.drop_eq_getElem_cons hl, List.take_append_drop]
  have e2 : (tl s).take (i + 1) = (tl s).take i ++ [c] := by rw [List.take_add_one, hc']; rfl
  rw [e2]
  exact hs _ c _ σ _ e p
theorem for_rg {lo : Int} {n : Nat} (Pv : Nat → L2.St → Hp → Prop) (h0 : Pv 0 σ H)
    (hs : ∀ i σ H, i < n → Pv i σ H → g (.int (lo + i)) σ H fun σ2 H2 => tb { D with nx := Pv (i + 1), ct := Pv (i + 1), bk := D.nx } σ2 H2) (hd : ∀ σ H, Pv n σ H → D.nx σ H) :
    ∃ W : Nat → Nat → L2.St → Hp → Prop, (∃ m, W 0 m σ H) ∧ ∀ i m σ H, W i m σ H →
      ((Itr lo n).stop i H ∧ D.nx σ H) ∨ ((Itr lo n).go i H ∧ ∃ N : L2.St → Hp → Prop, (∀ σ' H', N σ' H' → ∃ m', m' < m ∧ W (i + 1) m' σ' H') ∧ ∀ x H', (Itr lo n).yld i H x H' → g x σ H' fun σ2 H2 => tb { D with nx := N, ct := N, bk := D.nx } σ2 H2) := for_range Pv h0 hs hd
theorem for_li {K : PySem.W.Frag} {a : Addr} {xs : List V} (Pv : List V → L2.St → Hp → Prop) (h0 : Pv [] σ H) (hl : ∀ pre post σ H, xs = pre ++ post → Pv pre σ H → SqL K H a xs)
    (hs : ∀ pre x post σ H, xs = pre ++ x :: post → Pv pre σ H → g x σ H fun σ2 H2 => tb { D with nx := Pv (pre ++ [x]), ct := Pv (pre ++ [x]), bk := D.nx } σ2 H2) (hd : ∀ σ H, Pv xs σ H → D.nx σ H) :
    ∃ W : Nat → Nat → L2.St → Hp → Prop, (∃ m, W 0 m σ H) ∧ ∀ i m σ H, W i m σ H →
      ((Itl K a).stop i H ∧ D.nx σ H) ∨ ((Itl K a).go i H ∧ ∃ N : L2.St → Hp → Prop, (∀ σ' H', N σ' H' → ∃ m', m' < m ∧ W (i + 1) m' σ' H') ∧ ∀ x H', (Itl K a).yld i H x H' → g x σ H' fun σ2 H2 => tb { D with nx := N, ct := N, bk := D.nx } σ2 H2) := by
  refine for_it (walk_list (xs := xs)) (fun i σ H => Pv (xs.take i) σ H) (by simpa using h0) (fun i σ H _ p => hl (xs.take i) (xs.drop i) σ H (List.take_append_drop i xs).symm p) ?_ (fun σ H p => hd σ H (by rw [List.take_length] at p; exact p))
  rintro i x σ H H' hi p ⟨rfl, hc⟩
  have e : xs = xs.take i ++ x :: xs.drop (i + 1) := by
    have h2 : xs[i] = x := by rw [List.getElem?_eq_getElem hi] at hc; exact Option.some.inj hc
    rw [← h2, ← List.drop_eq_getElem_cons hi, List.take_append_drop]
  have e2 : xs.take (i + 1) = xs.take i ++ [x] := by rw [List.take_add_one, hc]; rfl
  rw [e2]
  exact hs _ x _ σ _ e p
end
section
variable {g : TG} {tt : TT} {te : TE} {vs : List Nat} {σ : L2.St} {H1 : Hp} {D : Addr} {Qd : Hp → Prop}
theorem lc_rg {lo : Int} {n : Nat} (Pv : Nat → Hp → Prop) (h0 : Pv 0 (upd H1 D (.lst [])))
    (hs : ∀ i H, i < n → Pv i H → g (.int (lo + i)) (wipe σ vs) H fun σ2 H2 => wipe σ2 vs = wipe σ vs ∧ tt σ2 H2 fun b H3 =>
      if b = true then te σ2 H3 fun y H4 => ∃ acc, H4 D = some (.lst acc) ∧ acc.length < sizeLine ∧ Pv (i + 1) (upd H4 D (.lst (acc ++ [y]))) else Pv (i + 1) H3) (hd : ∀ H, Pv n H → Qd H) :
    ∃ W : Nat → Nat → Hp → Prop, (∃ m, W 0 m (upd H1 D (.lst []))) ∧ ∀ i m H, W i m H →
      ((Itr lo n).stop i H ∧ Qd H) ∨ ((Itr lo n).go i H ∧ ∃ Nx : Hp → Prop, (∀ H', Nx H' → ∃ m', m' < m ∧ W (i + 1) m' H') ∧ ∀ x H', (Itr lo n).yld i H x H' → g x (wipe σ vs) H' fun σ2 H2 => wipe σ2 vs = wipe σ vs ∧ tt σ2 H2 fun b H3 =>
        if b = true then te σ2 H3 fun y H4 => ∃ acc, H4 D = some (.lst acc) ∧ acc.length < sizeLine ∧ Nx (upd H4 D (.lst (acc ++ [y]))) else Nx H3) := lc_range Pv h0 hs hd
theorem lc_str {s : Str} (Pv : List Nat → Hp → Prop) (h0 : Pv [] (upd H1 D (.lst [])))
    (hs : ∀ pre c post H, tl s = pre ++ c :: post → Pv pre H → g (.str ⟨#[c]⟩) (wipe σ vs) H fun σ2 H2 => wipe σ2 vs = wipe σ vs ∧ tt σ2 H2 fun b H3 =>
      if b = true then te σ2 H3 fun y H4 => ∃ acc, H4 D = some (.lst acc) ∧ acc.length < sizeLine ∧ Pv (pre ++ [c]) (upd H4 D (.lst (acc ++ [y]))) else Pv (pre ++ [c]) H3) (hd : ∀ H, Pv (tl s) H → Qd H) :
    ∃ W : Nat → Nat → Hp → Prop, (∃ m, W 0 m (upd H1 D (.lst []))) ∧ ∀ i m H, W i m H →
      ((Its s).stop i H ∧ Qd H) ∨ ((Its s).go i H ∧ ∃ Nx : Hp → Prop, (∀ H', Nx H' → ∃ m', m' < m ∧ W (i + 1) m' H') ∧ ∀ x H', (Its s).yld i H x H' → g x (wipe σ vs) H' fun σ2 H2 => wipe σ2 vs = wipe σ vs ∧ tt σ2 H2 fun b H3 =>
        if b = true then te σ2 H3 fun y H4 => ∃ acc, H4 D = some (.lst acc) ∧ acc.length < sizeLine ∧ Nx (upd H4 D (.lst (acc ++ [y]))) else Nx H3) := by
  have hsz : s.cps.size = (tl s).length := by simp
  refine lc_it walk_str (fun i H => Pv ((tl s).take i) H) (by simpa using h0) (fun _ _ _ _ => True.intro) ?_ (fun H p => hd H (by rw [hsz, List.take_length] at p; exact p))
  rintro i x H H' hi p ⟨rfl, c, hc, rfl⟩
  have hc' : (tl s)[i]? = some c := by simpa using hc
  have hl : i < (tl s).length := by omega
  have e : tl s = (tl s).take i ++ c :: (tl s).drop (i + 1) := by
    have h2 : (tl s)[i] = c := by rw [List.getElem?_eq_getElem hl] at hc'; exact Option.some.inj hc'
    rw [← h2, ← List.drop_eq_getElem_cons hl, List.take_append_drop]
  have e2 : (tl s).take (i + 1) = (tl s).take i ++ [c] := by rw [List.take_add_one, hc']; rfl
  rw [e2]
  exact hs _ c _ _ e p
theorem lc_li {K : PySem.W.Frag} {a : Addr} {xs : List V} (Pv : List V → Hp → Prop) (h0 : Pv [] (upd H1 D (.lst []))) (hl : ∀ pre post H, xs = pre ++ post → Pv pre H → SqL K H a xs)
    (hs : ∀ pre x post H, xs = pre ++ x :: post → Pv pre H → g x (wipe σ vs) H fun σ2 H2 => wipe σ2 vs = wipe σ vs ∧ tt σ2 H2 fun b H3 =>
      if b = true then te σ2 H3 fun y H4 => ∃ acc, H4 D = some (.lst acc) ∧ acc.length < sizeLine ∧ Pv (pre ++ [x]) (upd H4 D (.lst (acc ++ [y]))) else Pv (pre ++ [x]) H3) (hd : ∀ H, Pv xs H → Qd H) :
    ∃ W : Nat → Nat → Hp → Prop, (∃ m, W 0 m (upd H1 D (.lst []))) ∧ ∀ i m H, W i m H →
      ((Itl K a).stop i H ∧ Qd H) ∨ ((Itl K a).go i H ∧ ∃ Nx : Hp → Prop, (∀ H', Nx H' → ∃ m', m' < m ∧ W (i + 1) m' H') ∧ ∀ x H', (Itl K a).yld i H x H' → g x (wipe σ vs) H' fun σ2 H2 => wipe σ2 vs = wipe σ vs ∧ tt σ2 H2 fun b H3 =>
        if b = true then te σ2 H3 fun y H4 => ∃ acc, H4 D = some (.lst acc) ∧ acc.length < sizeLine ∧ Nx (upd H4 D (.lst (acc ++ [y]))) else Nx H3) := by
  refine lc_it (walk_list (xs := xs)) (fun i H => Pv (xs.take i) H) (by simpa using h0) (fun i H _ p => hl (xs.take i) (xs.drop i) H (List.take_append_drop i xs).symm p) ?_ (fun H p => hd H (by rw [List.take_length] at p; exact p))
  rintro i x H H' hi p ⟨rfl, hc⟩
  have e : xs = xs.take i ++ x :: xs.drop (i + 1) := by
    have h2 : xs[i] = x := by rw [List.getElem?_eq_getElem hi] at hc; exact Option.some.inj hc
    rw [← h2, ← List.drop_eq_getElem_cons hi, List.take_append_drop]
  have e2 : xs.take (i + 1) = xs.take i ++ [x] := by rw [List.take_add_one, hc]; rfl
  rw [e2]
  exact hs _ x _ _ e p
end
end FR
set_option Elab.async false
set_option linter.all false
set_option maxRecDepth 100000
/-! names and paths; defs with a star parameter -/
namespace FR
open PySem PySem.Spec PyProof.Rows L2 TL
theorem Keep.trans {M : List Addr} {H H1 H2 : Hp} (a : Keep M H H1) (b : Keep M H1 H2) : Keep M H H2 := fun p o e hp => b p o (a p o e hp) hp
theorem Keep.nil {M : List Addr} {H H1 : Hp} (a : Keep [] H H1) : Keep M H H1 := fun p o e _ => a p o e (by simp)
theorem Ow.sel {H0 H : Hp} {M : List Addr} {L L' : List (Addr × HO)} (W : Ow H0 M H L) (h : L'.Sublist L) : Ow H0 M H L' := ⟨W.keep, fun p hp => W.has p (h.subset hp), (h.map _).nodup W.nd, fun p hp => W.fr p (h.subset hp)⟩
theorem Ow.fresh {H0 H : Hp} {M : List Addr} {L : List (Addr × HO)} {p : Addr} {o : HO} (W : Ow H0 M H ((p, o) :: L)) (h : ∀ x ∈ M, x ∈ L.map (·.1)) : H0 p = none := by
  rcases W.fr _ List.mem_cons_self with r | r
  · exact r
  · exact absurd (h _ r) (List.nodup_cons.mp W.nd).1
theorem Ow.anyN {H0 H H' : Hp} {M : List Addr} {L : List (Addr × HO)} {a p : Addr} {o o' o2 : HO} (W : Ow H0 M H L) (i : Nat) (e : L[i]? = some (a, o)) (k : Keep [a] H H') (h : H' a = some o') (hp : H p = none) (h2 : H' p = some o2) : Ow H0 M H' ((p, o2) :: L.set i (a, o')) where
  keep := (W.any1 i e k h).keep
  has := fun q hq => by
    rcases List.mem_cons.mp hq with rfl | hq
    · exact h2
    · exact (W.any1 i e k h).has q hq
  nd := by
    rw [List.map_cons, List.nodup_cons, map_set_fst e]
    refine ⟨fun hm => ?_, W.nd⟩
    obtain ⟨q, hq, e⟩ := List.mem_map.mp hm
    have := W.has q hq
    rw [show q.1 = p from e, hp] at this
    cases this
  fr := fun q hq => by
    rcases List.mem_cons.mp hq with rfl | hq
    · by_cases hm : p ∈ M
      · exact .inr hm
      · cases e0 : H0 p with
        | none => exact .inl rfl
        | some u =>
          have := W.keep p u e0 hm
          rw [hp] at this
          cases this
    · exact (W.any1 i e k h).fr q hq
/-- a small letter -/
def lc (c : Nat) : Bool := decide (97 ≤ c ∧ c ≤ 122)
theorem lc_alpha : ∀ c : Fin 128, lc c.1 = true → Unicode.isAlpha c.1 = true ∧ Unicode.isLower c.1 = true ∧ (Unicode.isUpper c.1 || Unicode.isTitle c.1) = false := by decide +kernel
theorem all_tl (s : Str) (p : Nat → Bool) : s.cps.all p = (tl s).all p := by simp
theorem any_tl (s : Str) (p : Nat → Bool) : s.cps.any p = (tl s).any p := by simp
theorem isascii_asc {s : Str} (a : Asc s) : Txt.isascii s = true := by
  show s.cps.all (· < 128) = true
  rw [all_tl]
  exact List.all_eq_true.mpr fun c hc => decide_eq_true (a c hc)
/-- a name -/
structure Nm (s : Str) : Prop where
  l0 : 1 ≤ s.length
  l1 : s.length ≤ 8
  lo : ∀ c ∈ tl s, lc c = true
theorem Nm.lt {s : Str} (h : Nm s) {c : Nat} (hc : c ∈ tl s) : 97 ≤ c ∧ c ≤ 122 := of_decide_eq_true (h.lo c hc)
theorem Nm.asc {s : Str} (h : Nm s) : Asc s := fun c hc => by have := h.lt hc; omega
theorem Nm.alpha {s : Str} (h : Nm s) : Txt.isalpha s = true := by
  show (decide (s.length > 0) && s.cps.all Unicode.isAlpha) = true
  rw [all_tl, Bool.and_eq_true, decide_eq_true_eq, List.all_eq_true]
  exact ⟨h.l0, fun c hc => (lc_alpha ⟨c, h.asc c hc⟩ (h.lo c hc)).1⟩
theorem Nm.lower {s : Str} (h : Nm s) : Txt.islower s = true := by
  show (s.cps.any Unicode.isLower && !s.cps.any fun c => Unicode.isUpper c || Unicode.isTitle c) = true
  rw [any_tl, any_tl, Bool.and_eq_true, List.any_eq_true, Bool.not_eq_true', List.any_eq_false]
  refine ⟨?_, fun c hc => by have := (lc_alpha ⟨c, h.asc c hc⟩ (h.lo c hc)).2.2; simpa using this⟩
  have h0 := h.l0
  rw [len_tl] at h0
  obtain ⟨c, hc⟩ := List.exists_mem_of_length_pos h0
  exact ⟨c, hc, (lc_alpha ⟨c, h.asc c hc⟩ (h.lo c hc)).2.1⟩
theorem slash : Str.ofString "/" = ⟨#[47]⟩ := by decide +kernel
theorem tl_slash : tl (Str.ofString "/") = [47] := by decide +kernel
theorem tl_emp : tl (Str.ofString "") = [] := by decide +kernel
/-- names behind slashes -/
def flat (ns : List Str) : List Nat := (ns.map fun s => 47 :: tl s).flatten
def cat (ns : List Str) : Str := ns.foldl (fun a n => (a ++ Str.ofString "/") ++ n) (Str.ofString "")
theorem cat_app (ns : List Str) (n : Str) : cat (ns ++ [n]) = (cat ns ++ Str.ofString "/") ++ n := by
  unfold cat
  rw [List.foldl_append]
  rfl
theorem tl_catF : ∀ (ns : List Str) (a : Str), tl (ns.foldl (fun a n => (a ++ Str.ofString "/") ++ n) a) = tl a ++ flat ns
  | [], a => by simp [flat]
  | n :: r, a => by
    rw [List.foldl_cons, tl_catF r, tl_append, tl_append, tl_slash]
    simp [flat]
theorem tl_cat (ns : List Str) : tl (cat ns) = flat ns := by
  unfold cat
  rw [tl_catF, tl_emp]
  rfl
def Nms (ns : List Str) : Prop := ∀ s ∈ ns, Nm s
theorem Nms.app {a b : List Str} (ha : Nms a) (hb : Nms b) : Nms (a ++ b) := fun s h => (List.mem_append.mp h).elim (ha s) (hb s)
theorem Nms.sub {a b : List Str} (h : Nms b) (s : ∀ x ∈ a, x ∈ b) : Nms a := fun x hx => h x (s x hx)
theorem Nms.take {a : List Str} (h : Nms a) (k : Nat) : Nms (a.take k) := h.sub fun _ => List.mem_of_mem_take
theorem Nms.drop {a : List Str} (h : Nms a) (k : Nat) : Nms (a.drop k) := h.sub fun _ => List.mem_of_mem_drop
theorem Nms.dropLast {a : List Str} (h : Nms a) : Nms a.dropLast := h.sub fun _ hx => (List.dropLast_subset _) hx
theorem Nms.asc {a : List Str} (h : Nms a) : ∀ s ∈ a, Asc s := fun s hs => (h s hs).asc
theorem flat_len : ∀ {ns : List Str}, Nms ns → (flat ns).length ≤ 9 * ns.length
  | [], _ => by simp [flat]
  | n :: r, h => by
    have ih := flat_len (ns := r) fun s hs => h s (List.mem_cons_of_mem _ hs)
    have h1 := (h n List.mem_cons_self).l1
    rw [len_tl] at h1
    show ((47 :: tl n) ++ flat r).length ≤ _
    rw [List.length_append, List.length_cons, List.length_cons]
    omega
theorem cat_len {ns : List Str} (h : Nms ns) : (cat ns).length ≤ 9 * ns.length := by
  rw [len_tl, tl_cat]
  exact flat_len h
def pathOf (ns : List Str) : Str := if ns = [] then Str.ofString "/" else cat ns
theorem pathOf_nil : pathOf [] = Str.ofString "/" := rfl
theorem pathOf_ne {ns : List Str} (h : ns ≠ []) : pathOf ns = cat ns := if_neg h
theorem path_len {ns : List Str} (h : Nms ns) : (pathOf ns).length ≤ 9 * ns.length + 1 := by
  by_cases e : ns = []
  · subst e
    decide +kernel
  · rw [pathOf_ne e]
    exact Nat.le_trans (cat_len h) (by omega)
theorem flat_cons (n : Str) (r : List Str) : flat (n :: r) = 47 :: (tl n ++ flat r) := by simp [flat]
theorem path_starts (ns : List Str) : Txt.startswith (pathOf ns) (Str.ofString "/") = true := by
  rw [slash, starts_one]
  cases ns with
  | nil => decide +kernel
  | cons n r => rw [pathOf_ne (by simp), tl_cat, flat_cons]; rfl
theorem path_slash {ns : List Str} (h : Nms ns) (e : ns ≠ []) : pathOf ns ≠ Str.ofString "/" := fun he => by
  have := congrArg tl he
  rw [pathOf_ne e, tl_cat, tl_slash] at this
  cases ns with
  | nil => exact e rfl
  | cons n r =>
    rw [flat_cons] at this
    have h0 := (h n List.mem_cons_self).l0
    rw [len_tl] at h0
    have h2 := congrArg List.length this
    simp at h2
    simp [h2.1] at h0
theorem cat_emp {ns : List Str} : cat ns = Str.ofString "" ↔ ns = [] := by
  constructor
  · intro h
    cases ns with
    | nil => rfl
    | cons n r =>
      have := congrArg tl h
      rw [tl_cat, flat_cons, tl_emp] at this
      cases this
  · rintro rfl
    rfl
theorem spl_word : ∀ (l acc r : List Nat), (∀ c ∈ l, c ≠ 47) → spl [47] 0 acc (l ++ r) = spl [47] 0 (acc ++ l) r
  | [], acc, r, _ => by simp
  | c :: l, acc, r, h => by
    rw [List.cons_append, spl_miss (by rw [pre_one]; exact decide_eq_false (h c List.mem_cons_self)), spl_word l _ r fun d hd => h d (List.mem_cons_of_mem _ hd)]
    simp
theorem spl_flat : ∀ (ns : List Str) (acc : List Nat), Nms ns → spl [47] 0 acc (flat ns) = acc :: ns.map tl
  | [], acc, _ => by
    show spl [47] 0 acc [] = _
    rw [spl_nil]
    rfl
  | n :: r, acc, h => by
    have hn := h n List.mem_cons_self
    rw [flat_cons, spl_hit (by rw [pre_one]; rfl), List.map_cons]
    show acc :: spl [47] 0 [] (tl n ++ flat r) = _
    rw [spl_word _ _ _ fun c hc => by have := hn.lt hc; omega, spl_flat r _ fun s hs => h s (List.mem_cons_of_mem _ hs)]
    rfl
theorem split_path {ns : List Str} (h : Nms ns) (e : ns ≠ []) : Txt.split (pathOf ns) (Str.ofString "/") = Str.ofString "" :: ns := by
  refine map_tl_inj ?_
  rw [slash, split_tl _ (by decide), pathOf_ne e, tl_cat, spl_flat _ _ h, List.map_cons, tl_emp]
theorem flat_join : ∀ {ns : List Str}, ns ≠ [] → 47 :: joinL [47] (ns.map tl) = flat ns
  | [], h => absurd rfl h
  | [s], _ => by
    rw [flat_cons]
    show 47 :: tl s = 47 :: (tl s ++ [])
    rw [List.append_nil]
  | s :: t :: r, _ => by
    have ih := flat_join (ns := t :: r) (by simp)
    rw [flat_cons, ← ih]
    rfl
theorem join_path (ns : List Str) : Str.ofString "/" ++ Txt.join (Str.ofString "/") ns = pathOf ns := by
  refine ext_tl ?_
  rw [tl_append, join_eq, tl_join, tl_slash]
  cases ns with
  | nil => decide +kernel
  | cons n r =>
    rw [pathOf_ne (by simp), tl_cat]
    exact flat_join (by simp)
theorem names_sum {ns : List Str} (h : Nms ns) : (ns.map (·.length)).sum ≤ ns.length * 8 := sum_le fun s hs => (h s hs).l1
theorem ix_listK {X : Cx} {K : PySem.W.Frag} (h : X.K = K) : IxR X (rIxL K) := h ▸ ix_list
/-! slices -/
theorem cutV_to (xs : List V) (k : Nat) : cutV xs none (some (k : Int)) = xs.take k := by
  show (xs.drop 0).take (HT.sIx xs.length xs.length (some (k : Int)) - 0) = _
  rw [HT.sIx_nat, List.drop_zero, Nat.sub_zero]
  by_cases h : k ≤ xs.length
  · rw [Nat.min_eq_left h]
  · rw [Nat.min_eq_right (by omega), List.take_of_length_le (Nat.le_refl _), List.take_of_length_le (by omega)]
theorem cutV_from (xs : List V) (k : Nat) : cutV xs (some (k : Int)) none = xs.drop k := by
  show (xs.drop (HT.sIx xs.length 0 (some (k : Int)))).take (xs.length - HT.sIx xs.length 0 (some (k : Int))) = _
  rw [HT.sIx_nat]
  by_cases h : k ≤ xs.length
  · rw [Nat.min_eq_left h, List.take_of_length_le (by rw [List.length_drop]; exact Nat.le_refl _)]
  · rw [Nat.min_eq_right (by omega), Nat.sub_self, List.take_zero, List.drop_of_length_le (by omega)]
theorem cutV_last (xs : List V) : cutV xs none (some (-1)) = xs.dropLast := by
  show (xs.drop 0).take (((-1 : Int) + (xs.length : Int)).toNat - 0) = _
  rw [List.drop_zero, Nat.sub_zero, List.dropLast_eq_take, show ((-1 : Int) + (xs.length : Int)).toNat = xs.length - 1 by omega]
theorem tl_cutTo (s : Str) (k : Nat) : tl (cutS s none (some (k : Int))) = (tl s).take k := by
  rw [tl_cutS]
  show ((tl s).drop 0).take (HT.sIx s.length s.length (some (k : Int)) - 0) = _
  rw [HT.sIx_nat, len_tl, List.drop_zero, Nat.sub_zero]
  by_cases h : k ≤ (tl s).length
  · rw [Nat.min_eq_left h]
  · rw [Nat.min_eq_right (by omega), List.take_of_length_le (Nat.le_refl _), List.take_of_length_le (by omega)]
theorem eqv_strs2 : ∀ a b : List Str, PyData.eqvAll (a.map .str) (b.map .str) = decide (a = b)
  | [], [] => rfl
  | [], _ :: _ => rfl
  | _ :: _, [] => rfl
  | x :: a, y :: b => by
    rw [List.map_cons, List.map_cons, PyData.eqvAll, eqv_strs2 a b, PyData.eqv]
    by_cases h : x = y
    · subst h
      simp
    · simp [h]
theorem eqv_lists (a b : List Str) : PyData.eqv (dStrs a) (dStrs b) = decide (a = b) := by
  unfold dStrs
  rw [PyData.eqv, eqv_strs2]
theorem shaped_names {ns : List Str} (h : Nms ns) : SeqAt.shaped (dStrs ns) = true := shaped_strs h.asc
/-! ### a walk over a tuple by what is behind -/
section
variable {g : TG} {tb : TS} {D : Ends} {σ : L2.St} {H : Hp}
theorem for_tu {K : PySem.W.Frag} {a : Addr} {xs : List V} (Pv : List V → L2.St → Hp → Prop) (h0 : Pv [] σ H) (hl : ∀ pre post σ H, xs = pre ++ post → Pv pre σ H → SqT K H a xs)
    (hs : ∀ pre x post σ H, xs = pre ++ x :: post → Pv pre σ H → g x σ H fun σ2 H2 => tb { D with nx := Pv (pre ++ [x]), ct := Pv (pre ++ [x]), bk := D.nx } σ2 H2) (hd : ∀ σ H, Pv xs σ H → D.nx σ H) :
    ∃ W : Nat → Nat → L2.St → Hp → Prop, (∃ m, W 0 m σ H) ∧ ∀ i m σ H, W i m σ H →
      ((Itt K a).stop i H ∧ D.nx σ H) ∨ ((Itt K a).go i H ∧ ∃ N : L2.St → Hp → Prop, (∀ σ' H', N σ' H' → ∃ m', m' < m ∧ W (i + 1) m' σ' H') ∧ ∀ x H', (Itt K a).yld i H x H' → g x σ H' fun σ2 H2 => tb { D with nx := N, ct := N, bk := D.nx } σ2 H2) := by
  refine for_it (walk_tup (xs := xs)) (fun i σ H => Pv (xs.take i) σ H) (by simpa using h0) (fun i σ H _ p => hl (xs.take i) (xs.drop i) σ H (List.take_append_drop i xs).symm p) ?_ (fun σ H p => hd σ H (by rw [List.take_length] at p; exact p))
  rintro i x σ H H' hi p ⟨rfl, hc⟩
  have e : xs = xs.take i ++ x :: xs.drop (i + 1) := by
    have h2 : xs[i] = x := by rw [List.getElem?_eq_getElem hi] at hc; exact Option.some.inj hc
    rw [← h2, ← List.drop_eq_getElem_cons hi, List.take_append_drop]
  have e2 : xs.take (i + 1) = xs.take i ++ [x] := by rw [List.take_add_one, hc]; rfl
  rw [e2]
  exact hs _ x _ σ _ e p
end
/-! ### defs with a star parameter, and their calls -/
theorem okStar {P : Program} {w : World} {K : PySem.W.Frag} {mg : Str → Option Value} {base : Heap} {x qual pv : Str} {st : Stmt} {f : Addr} {fd : FuncData} {N ps : List Str} {k : Nat} {sp : Sp} (F : L2.Fun K x qual st f fd) (S : FnScope N (ps ++ [pv]) (defScope st))
    (hb : ∀ (kV doc pm : Value) (an : Option Addr) (cdv ct : Value) (us rest : List Value), us.length = ps.length → bindArgs (PySem.W.fnOf x qual (defArgs st) (defBody st) (defScope st) .none kV doc pm an cdv ct) ⟨us ++ rest, []⟩ = (newTuple rest >>= fun t => pure (ps.zip us ++ [(pv, t)])))
    (hbody : ∀ (cdv : Value) (A : Around) (outer : List Env) (s : Shared) (H : Hp) (vs : List V) (Q : VK) (E : XK), Room k (A.deeper (envOfC qual (defScope st) s.heap.objs.size f cdv)) → sp vs H Q E →
      ∃ t, PSs (cxOf CX0 P w K mg base N qual (defScope st) f cdv A outer s H E).nox (defBody st) t ∧ t { nx := fun _ H' => Q .non H', rt := Q } (start N vs) H) :
    FnR P w K mg base CX0 (k + 1) f (fun vs H Q E => ∃ ws rest, vs = ws ++ rest ∧ ws.length = ps.length ∧ rest.length ≤ sizeLine ∧ ∀ p, H p = Option.none → sp (ws ++ [V.ref p]) (upd H p (.tup rest)) Q E) := by
  obtain ⟨oc, od, kV, doc, pm, an, cdv, ct, osl, rfl, lk, hcd⟩ := F.ex
  refine StX.fn_star lk hcd S StX.cxUp_none (hb kV doc pm an cdv ct) fun A outer s H vs Q E hr hsp => ?_
  obtain ⟨t, h, q⟩ := hbody cdv A outer s H vs Q E hr hsp
  exact ⟨t, h.nox, q⟩
section
variable {X : Cx} {CX : CXT} {k : Nat} {f : Addr} {sp : Sp} {E : XK} {x : Str} {e : Expr} {es : List Expr} {t : TA} {p pos : Pos}
theorem pe_callRN (F : FnR X.prog X.w X.K X.mg X.base CX k f sp) (hr : Room k X.A) (hk : PySem.W.keepIn X.K (.ref f) = true) (hg : Gl X x) (hm : X.mg x = some (.ref f)) (hx : Passes CX X E) (ha : PA X (e :: es) t) (hd : (x == ("__debug__" : Str)) = false := by decide)
    (he : starEach (e :: es) X.env = (false, eval e X.env) :: starEach es X.env := by rfl) (hpl : (backTo pos (starEach es X.env)).any (·.1) = false := by rfl) :
    PE X (.Call (.Name x p) (e :: es) [] pos) (fun σ H Q => t σ H fun vs H1 => sp vs H1 Q E) := by
  refine ⟨fun pins s σ H Q I h => ?_⟩
  refine wpAny_Call_Name_kw (ld_glob I hg hm ?_ hd)
  refine PySem.W.callWith_K (h₀ := X.base) I.ok.mod.kin hk (thn (ha.run pos pins s σ H _ I h) fun us s1 ⟨vs, H1, I1, r, q⟩ => ⟨I1.kIn, ?_⟩) he hpl
  exact wpAny_call (run_fnR F hr hx I1 r q)
end

end FR
set_option Elab.async false
set_option linter.all false
set_option maxRecDepth 100000
namespace FR
open PySem PySem.Spec PyProof.Rows L2 TL
theorem pe_joinK {X : Cx} {K : PySem.W.Frag} {o e : Expr} {to te : TE} {apos pos : Pos} (h : X.K = K) (ho : PE X o to) (he : PE X e te) (hs : starEach [e] X.env = [(false, eval e X.env)] := by rfl) (hbase : attributeBase o "join" X.env (eval o X.env) = eval o X.env := by rfl) (hline : (apos.endLine == pos.line) = true := by rfl) :
    PE X (.Call (.Attribute o "join" apos) [e] [] pos) (tM1 (fun x xs H Q => ∃ a p, ∃ ys : List Str, x = .str a ∧ xs = [.ref p] ∧ (SqL K H p (ys.map V.str) ∨ SqT K H p (ys.map V.str)) ∧
      (ys.map (·.length)).sum + ys.length * a.length ≤ 16777216 ∧ Q (.str (Txt.join a ys)) H) to te) := h ▸ pe_join ho he hs hbase hline
end FR
set_option Elab.async false
set_option linter.all false
set_option maxRecDepth 100000
/-! promises that also know that no repr is under way; repr of data -/
namespace FR
open PySem PySem.Spec PyProof.Rows L2 TL
def FnG (P : Program) (w : World) (K : PySem.W.Frag) (mg : Str → Option Value) (base : Heap) (CX : CXT) (k : Nat) (f : Addr) (sp : Sp) : Prop :=
  ∀ (A : Around) (outer : List Env) (s : Shared) (H : Hp) (us : List Value) (vs : List V) (Q : VK) (E : XK), A.guards = some [] → Room k A → Env0 P w K mg base A outer s H → Vals vs us → sp vs H Q E → codeAny (model P w) A (.call (.ref f) ⟨us, []⟩) (CR CX outer P w H s Q E) s
section
variable {P : Program} {w : World} {K : PySem.W.Frag} {mg : Str → Option Value} {base : Heap} {CX : CXT} {k : Nat} {f : Addr} {sp : Sp}
theorem FnG.of (F : FnR P w K mg base CX k f sp) : FnG P w K mg base CX k f sp := fun A outer s H us vs Q E _ hr e0 r hs => F A outer s H us vs Q E hr e0 r hs
theorem okG {x qual : Str} {st : Stmt} {fd : FuncData} {N ps : List Str} (F : L2.Fun K x qual st f fd) (S : FnScope N ps (defScope st)) (B : Binds K fd ps []) (hlen : ∀ vs H Q E, sp vs H Q E → vs.length = ps.length)
    (hbody : ∀ (cdv : Value) (A : Around) (outer : List Env) (s : Shared) (H : Hp) (vs : List V) (Q : VK) (E : XK), A.guards = some [] → Room k (A.deeper (envOfC qual (defScope st) s.heap.objs.size f cdv)) → sp vs H Q E →
      ∃ t, PSs (cxOf CX P w K mg base N qual (defScope st) f cdv A outer s H E) (defBody st) t ∧ t { nx := fun _ H' => Q .non H', rt := Q } (start N vs) H) : FnG P w K mg base CX (k + 1) f sp := by
  intro A outer s H us vs Q E hg hr e0 r hsp
  obtain ⟨oc, od, kV, doc, pm, an, cdv, ct, osl, rfl, lk, hcd⟩ := F.ex
  have hv : vs.length = ps.length := hlen _ _ _ _ hsp
  have hu : us.length = ps.length := by rw [← r.length]; exact hv
  have KI : K.In s.heap := e0.mod.kin.keeps fun b o e => (e0.bs b o e).1
  have b0 := B s us KI (by rw [List.append_nil]; exact hu)
  rw [List.append_nil] at b0
  refine StX.run_bnd lk hcd S hr e0 (G := fun xs H2 => xs = vs ∧ H2 = H) (fun A' Ex Q' h => ?_) fun s2 H2 xs ⟨ex, eH⟩ hr' => ?_
  · exact b0 _ _ _ _ (h s H vs us e0 Un.refl rfl (fun _ _ z => z) r hv ⟨rfl, rfl⟩)
  · subst ex eH
    exact hbody cdv A outer s2 _ _ Q E hg hr' hsp
end
section
variable {X : Cx} {CX : CXT} {k : Nat} {f : Addr} {sp : Sp} {E : XK} {x : Str} {e : Expr} {es : List Expr} {t : TA} {p pos : Pos}
theorem pe_callG (F : FnG X.prog X.w X.K X.mg X.base CX k f sp) (hgd : X.A.guards = some []) (hr : Room k X.A) (hk : PySem.W.keepIn X.K (.ref f) = true) (hg : Gl X x) (hm : X.mg x = some (.ref f)) (hx : Passes CX X E) (ha : PA X (e :: es) t) (hd : (x == ("__debug__" : Str)) = false := by decide)
    (he : starEach (e :: es) X.env = (false, eval e X.env) :: starEach es X.env := by rfl) (hpl : (backTo pos (starEach es X.env)).any (·.1) = false := by rfl) :
    PE X (.Call (.Name x p) (e :: es) [] pos) (fun σ H Q => t σ H fun vs H1 => sp vs H1 Q E) := ⟨fun pins s σ H Q I h => by
  refine wpAny_Call_Name_kw (ld_glob I hg hm (PySem.W.callWith_K (h₀ := X.base) I.ok.mod.kin hk (thn (ha.run pos pins s σ H _ I h) fun us s1 hz => ?_) he hpl) hd)
  obtain ⟨vs, H1, I1, r, q⟩ := hz
  refine ⟨I1.kIn, wpAny_call (codeAny_mono (F X.A X.stack s1 H1 us vs Q E hgd hr I1.env0 r q) fun rr s' hq => ?_)⟩
  match rr, hq with
  | .error ee, hq => exact hx pins σ H1 s1 ee s' I1 hq
  | .ok (.ret u), hq => exact I1.after hq
  | .ok .next, hq => exact hq.elim
  | .ok .brk, hq => exact hq.elim
  | .ok .cont, hq => exact hq.elim⟩
/-- repr of data without dicts -/
def rReprD (K : PySem.W.Frag) : List V → Hp → VK → Prop := fun xs H Q => ∃ (p : Addr) (d : PyData), xs = [.ref p] ∧ Dp K H (.ref p) d ∧ d.showable = true ∧ d.hasDict = false ∧ d.depth ≤ 50 ∧ d.shown.length ≤ sizeLine ∧ Q (.str d.shown) H
theorem call_reprD (hgd : X.A.guards = some []) (hu : X.A.units + 65 < cLine) : CallR X (.builtin "repr") (rReprD X.K) := fun pins s σ H xs us Q I r h => by
  obtain ⟨p, d, rfl, hd, hs, hnd, hdp, hz, q⟩ := h
  obtain ⟨u, rfl, ru⟩ : ∃ u, us = [u] ∧ RelV (.ref p) u := by
    cases r with
    | cons a b => cases b; exact ⟨_, rfl, a⟩
  cases (show u = Value.ref p from ru)
  obtain ⟨as, rd⟩ := Dp.reads I d _ _ hd ru
  exact repr_of_reads' rd hs (fun e => by rw [hnd] at e; cases e) hgd (by omega) (fun _ _ e => e) (fun h' u tk hk => ⟨.str d.shown, H, I.kept hk, ⟨_, rfl⟩, q⟩) hz
end
/-! ### the end of a row, for such a promise -/
theorem law_callG {P : Program} {w : World} {K : PySem.W.Frag} {mg mb : Str → Option Value} {k : Nat} {fa a : Addr} {sp : Sp} {s1 : Shared} {vs : List Value} {ns : List Int}
    (KX : K.In s1.heap) (hns : s1.heap.Ns mainGlobals mg) (hb : s1.heap.Ns builtinsNs mb) (hbb : ∀ x : Str, x ≠ "__name__" → mb x = bootBuiltins x) (hlim : s1.heap.NoLimit) (hg : s1.gens = #[])
    (ha : s1.heap.get? a = some { cls := .type "list", data := .seq vs.toArray }) (hi : IntsAre vs ns) (hl : ns.length ≤ sizeLine) (hr : Room k callerA)
    (F : ∀ base : Heap, K.In base → base.Ns mainGlobals mg → FnG P w K mg base CX0 k fa sp)
    (hsp : ∀ H : Hp, Only H → SqL K H a (ns.map V.int) → sp [.ref a] H (fun v _ => v = .bl true) fun _ _ _ => False) :
    codeAny (model P w) callerA (.call (.ref fa) ⟨[.ref a], []⟩) (fun r s' => r = .ok (.ret (.bool true)) ∧ OldK s1.heap s'.heap ∧ s'.os = s1.os ∧ AllBare s'.gens) s1 := by
  have rv := vals_ints hi
  have lv := hi.length
  have main : ∀ H : Hp, Only H → SqL K H a (ns.map V.int) → HOk P w H s1.heap → (∀ b, H b ≠ none → b = a) → (H a ≠ none → K.lookup a = none) →
      codeAny (model P w) callerA (.call (.ref fa) ⟨[.ref a], []⟩) (fun r s' => r = .ok (.ret (.bool true)) ∧ OldK s1.heap s'.heap ∧ s'.os = s1.os ∧ AllBare s'.gens) s1 := by
    intro H hO hS hok hA hK
    have free : ∀ {b : Addr} {o : Obj} {es : Array DictEntry} {ep : Nat}, s1.heap.get? b = some o → o.data = .dict es ep → H b = none := by
      intro b o es ep e d
      refine Classical.byContradiction fun q => ?_
      cases hA b q
      cases ha.symm.trans e
      cases d
    have nsT : ∀ {b : Addr} {m : Str → Option Value}, s1.heap.Ns b m → (hidT s1.heap H).Ns b m := by
      intro b m ⟨o, es, ep, e, d, r⟩
      exact ⟨o, es, ep, hidT_get e (free e d), d, r⟩
    have KT : K.In (hidT s1.heap H) := by
      intro b o e
      refine hidT_get (KX b o e) (Classical.byContradiction fun q => ?_)
      cases hA b q
      cases (hK q).symm.trans e
    have md : Mod K mg (hidT s1.heap H) := ⟨KT, nsT hns, ⟨mb, nsT hb, hbb⟩, hlim.elim fun mc hc => ⟨mc, nsT hc.1, hc.2⟩⟩
    have en : Env0 P w K mg (hidT s1.heap H) callerA [] s1 H := ⟨rfl, md, fun _ _ e => of_hidT e, Nat.le_of_eq (hidT_size ..), True.intro, fun _ hb => (List.not_mem_nil hb).elim, hok, AllBare.of_eq hg⟩
    refine codeAny_mono (F _ KT (nsT hns) callerA [] s1 H [.ref a] [.ref a] _ _ rfl hr en (.cons rfl .nil) (hsp H hO hS)) fun r s' h => ?_
    match r, h with
    | .error e, h => exact h.elim
    | .ok .next, h => exact h.elim
    | .ok .brk, h => exact h.elim
    | .ok .cont, h => exact h.elim
    | .ok (.ret u), h =>
      obtain ⟨v, H', os, bare, un, hok', rr, q⟩ := h
      cases (show v = .bl true from q)
      cases (show u = Value.bool true from rr)
      refine ⟨rfl, OldK.of_keep fun b o e => ?_, os, bare⟩
      rcases hO b with z | ⟨ob, xs, z⟩
      · exact un.keep b o e z (fun y => (List.not_mem_nil y).elim) (List.not_mem_nil)
      · have t1 := (hok b _ z).1
        have t2 := (hok' b _ (un.frzs b ob _ z)).1
        rw [e] at t1
        cases t1
        exact t2
  cases hk : K.lookup a with
  | some o =>
    cases ha.symm.trans (KX a o hk)
    exact main (fun _ => none) (fun _ => Or.inl rfl) (Or.inr ⟨_, vs.toArray, _, hk, rfl, rfl, rfl, by rw [List.size_toArray, lv]; exact hl, by simpa using rv⟩) (fun b u z => nomatch (show (none : Option HO) = some u from z)) (fun b z => (z rfl).elim) (fun z => (z rfl).elim)
  | none =>
    have hs : ∀ b : Addr, b = a → (if b = a then some (HO.frz { cls := .type "list", data := .seq vs.toArray } (.lst (ns.map V.int))) else none) = some (HO.frz { cls := .type "list", data := .seq vs.toArray } (.lst (ns.map V.int))) := fun b e => if_pos e
    have hn : ∀ b : Addr, b ≠ a → (if b = a then some (HO.frz { cls := .type "list", data := .seq vs.toArray } (.lst (ns.map V.int))) else none) = none := fun b e => if_neg e
    refine main (fun b => if b = a then some (HO.frz { cls := .type "list", data := .seq vs.toArray } (.lst (ns.map V.int))) else none) (fun b => ?_) (Or.inl (Or.inr ⟨_, hs a rfl⟩)) (fun b u z => ?_) (fun b z => Classical.byContradiction fun e => z (hn b e)) (fun _ => hk)
    · by_cases e : b = a
      · exact Or.inr ⟨_, _, hs b e⟩
      · exact Or.inl (hn b e)
    · by_cases e : b = a
      · cases (hs b e).symm.trans z
        subst e
        exact ⟨ha, by rw [List.length_map]; exact hl, vs, _, rv, ha⟩
      · cases (hn b e).symm.trans z
theorem walk_ofG {l : PySem.W.OpenLaw} {n k : Nat} {q : Program} {loose : List Str} {XP : (Str → Option Value) → Heap → Prop} {YP : World → Heap → Prop} {d : DefRec} {K : Params → PySem.W.Frag} {sp : World → Sp}
    (hn : l.most = some n) (hn2 : n ≤ sizeLine) (hdf : d.params.defaults = []) (hr : Room k callerA) (hY : ∀ (w : World) (h : Heap), YP w h → (K w.params).In h)
    (F : ∀ (w : World) (mg : Str → Option Value) (fa : Addr) (h : Heap), (K w.params).In h → h.Ns mainGlobals mg → mg d.name = some (.ref fa) →
      ∀ base : Heap, (K w.params).In base → base.Ns mainGlobals mg → FnG l.prog w (K w.params) mg base CX0 k fa (sp w))
    (hsp : ∀ (w : World) (H : Hp) (a : Addr) (ns : List Int), ns.length ≤ n → Only H → SqL (K w.params) H a (ns.map V.int) → sp w [.ref a] H (fun v _ => v = .bl true) fun _ _ _ => False) :
    PySem.W.WalkO q loose XP YP l.row.toRowW d [] (fun f vs => PySem.call f vs) := by
  refine Att.attach_call hn hdf fun w s0 s1 mg mb fa o pm cd doc a vs ns G Y ho hd hcd hmg hobj hints hlen hg => ?_
  have KX := hY w _ Y
  exact law_callG KX G.T.g G.T.b G.T.builtins G.T.nolimit hg hobj hints (Nat.le_trans hlen hn2) hr (F w mg fa _ KX G.T.g hmg) fun H hO hS => hsp w H a ns hlen hO hS
end FR
set_option Elab.async false
set_option linter.all false
set_option maxRecDepth 100000
/-! repr of data with dicts -/
namespace FR
open PySem PySem.Spec PyProof.Rows L2 TL
def kD : Key → PyData
  | .inl i => .int i
  | .inr x => .str x
mutual
/-- x stands for the datum d, lists, tuples and dicts of this run all the way -/
inductive Dq (H : Hp) : V → PyData → Prop
  | non : Dq H .non .none
  | bl (b : Bool) : Dq H (.bl b) (.bool b)
  | int (i : Int) : Dq H (.int i) (.int i)
  | str (x : Str) : Dq H (.str x) (.str x)
  | lst {a : Addr} {xs : List V} {ds : List PyData} : H a = some (.lst xs) → sysModules < a → DqAll H xs ds → Dq H (.ref a) (.list ds)
  | tup {a : Addr} {xs : List V} {ds : List PyData} : H a = some (.tup xs) → DqAll H xs ds → Dq H (.ref a) (.tuple ds)
  | dct {a : Addr} {kvs : List (Key × V)} {ds : List (PyData × PyData)} : H a = some (.dK kvs) → DqKv H kvs ds → Dq H (.ref a) (.dict ds)
inductive DqAll (H : Hp) : List V → List PyData → Prop
  | nil : DqAll H [] []
  | cons {v : V} {vs : List V} {d : PyData} {ds : List PyData} : Dq H v d → DqAll H vs ds → DqAll H (v :: vs) (d :: ds)
inductive DqKv (H : Hp) : List (Key × V) → List (PyData × PyData) → Prop
  | nil : DqKv H [] []
  | cons {k : Key} {v : V} {vs : List (Key × V)} {d : PyData} {ds : List (PyData × PyData)} : Dq H v d → DqKv H vs ds → DqKv H ((k, v) :: vs) ((kD k, d) :: ds)
end
section
variable {X : Cx} {pins : List (Addr × Obj)} {σ : L2.St} {H : Hp} {s : Shared}
theorem kD_reads (k : Key) {u : Value} (h : keyIs k u = true) : Reads s.heap u (kD k) [] := by
  rcases keyIs_shape h with ⟨i, t, rfl, rfl⟩ | ⟨x, t, rfl, rfl⟩
  · exact .int i t
  · exact .str x t
mutual
theorem Dq.reads (I : Inv X pins σ H s) : ∀ (d : PyData) (v : V) (u : Value), Dq H v d → RelV v u → ∃ as, Reads s.heap u d as ∧ sysModules ∉ as
  | .none, _, _, h, r => by
    cases h
    cases r
    exact ⟨_, Reads.none, by simp⟩
  | .bool b, _, _, h, r => by
    cases h
    cases r
    exact ⟨_, Reads.bool b, by simp⟩
  | .int i, _, _, h, r => by
    cases h
    obtain ⟨t, rfl⟩ := r
    exact ⟨_, Reads.int i t, by simp⟩
  | .str x, _, _, h, r => by
    cases h
    obtain ⟨t, rfl⟩ := r
    exact ⟨_, Reads.str x t, by simp⟩
  | .list ds, _, _, h, r => by
    cases h with
    | lst hs hb ha =>
      cases r
      obtain ⟨_, its, n, rv, e⟩ := (show ObjOk X.prog X.w H s.heap _ (.lst _) from I.hok _ _ hs)
      obtain ⟨as, q, z⟩ := Dq.readsAll I ds _ _ ha rv
      exact ⟨_, Reads.list e rfl rfl q, fun h => (List.mem_cons.mp h).elim (fun e => by rw [← e] at hb; exact absurd hb (Nat.lt_irrefl _)) z⟩
  | .tuple ds, _, _, h, r => by
    cases h with
    | tup hs ha =>
      cases r
      obtain ⟨_, its, rv, o, e, hc, n, hd⟩ := (show ObjOk X.prog X.w H s.heap _ (.tup _) from I.hok _ _ hs)
      obtain ⟨as, q, z⟩ := Dq.readsAll I ds _ _ ha rv
      exact ⟨_, Reads.tuple e hc hd q, z⟩
  | .dict ds, _, _, h, r => by
    cases h with
    | dct hs ha =>
      cases r
      obtain ⟨_, ns, vs, kv, o, es, ep, e, hx, hd, _, hp, _⟩ := (show ObjOk X.prog X.w H s.heap _ (.dK _) from I.hok _ _ hs)
      obtain ⟨bs, q1, q2, z⟩ := Dq.readsKv I ds _ _ es.toList ha kv hp
      exact ⟨_, Reads.dict e hx.1 hd q1 q2, fun h => (List.mem_append.mp h).elim (fun h => (List.mem_cons.mp h).elim (fun e => by rw [← e] at ns; simp at ns) (fun h => by simp at h)) z⟩
theorem Dq.readsAll (I : Inv X pins σ H s) : ∀ (ds : List PyData) (vs : List V) (us : List Value), DqAll H vs ds → Vals vs us → ∃ as, ReadsAll s.heap us ds as ∧ sysModules ∉ as
  | [], _, _, h, r => by
    cases h
    cases r
    exact ⟨_, ReadsAll.nil, by simp⟩
  | d :: ds, _, _, h, r => by
    cases h with
    | cons h1 h2 =>
      cases r with
      | cons r1 r2 =>
        obtain ⟨as, q1, z1⟩ := Dq.reads I d _ _ h1 r1
        obtain ⟨bs, q2, z2⟩ := Dq.readsAll I ds _ _ h2 r2
        exact ⟨_, ReadsAll.cons q1 q2, fun h => (List.mem_append.mp h).elim z1 z2⟩
theorem Dq.readsKv (I : Inv X pins σ H s) : ∀ (ds : List (PyData × PyData)) (kvs : List (Key × V)) (vs : List (Key × Value)) (es : List DictEntry), DqKv H kvs ds → KV kvs vs → Pairs (mixKind X.prog X.w) es vs →
    ∃ bs, ReadsAll s.heap (es.map (·.key)) (ds.map (·.1)) [] ∧ ReadsAll s.heap (es.map (·.val)) (ds.map (·.2)) bs ∧ sysModules ∉ bs
  | [], _, _, _, h, r, p => by
    cases h
    cases r
    cases p
    exact ⟨_, ReadsAll.nil, ReadsAll.nil, by simp⟩
  | d :: ds, _, _, _, h, r, p => by
    cases h with
    | cons h1 h2 =>
      cases r with
      | cons r1 r2 =>
        cases p with
        | cons p1 p2 p3 =>
          obtain ⟨as, q1, z1⟩ := Dq.reads I _ _ _ h1 r1.2
          obtain ⟨bs, q2, q3, z2⟩ := Dq.readsKv I ds _ _ _ h2 r2 p3
          have p1' := p1
          rw [← r1.1] at p1'
          refine ⟨_, ?_, ?_, fun h => (List.mem_append.mp h).elim z1 z2⟩
          · exact ReadsAll.cons (as := []) (bs := []) (kD_reads _ (show keyIs _ _ = true from p1')) q2
          · rw [List.map_cons, List.map_cons, p2]
            exact ReadsAll.cons q1 q3
end
end
/-! lists at an address behind sysModules -/
structure NewS (o : HO) (Q : VK) (H : Hp) : Prop where
  to : ∀ (p : Addr) (H' : Hp), H p = none → sysModules < p → Keep [] H H' → H' p = some o → Q (.ref p) H'
section
variable {X : Cx} {es : List Expr} {t : TA} {pos : Pos}
def tLstS (t : TA) : TE := fun σ H Q => t σ H fun xs H1 => xs.length ≤ sizeLine ∧ NewS (.lst xs) Q H1
theorem pe_lstS (h : PA X es t) : PE X (.List es pos) (tLstS t) := by
  refine ⟨fun pins s σ H Q I hq => wpAny_List_spliced (thn (h.run _ pins s σ H _ I hq) fun us s1 hh => ?_)⟩
  obtain ⟨xs, H1, I1, r, z, q⟩ := hh
  refine ⟨by rw [← r.length]; exact z, .ref s1.heap.objs.size, upd H1 s1.heap.objs.size (.lst xs), I1.laid (t' := s1.toks) (fun _ _ e => Heap.get?_push_of_some _ e) (Nat.le_refl _) ⟨z, us, 0, r, Heap.get?_push_size _ rfl⟩, rfl, ?_⟩
  exact q.to _ _ (I1.hok.fresh (Nat.le_refl _)) I1.big (keep_new (I1.hok.fresh (Nat.le_refl _))) upd_same
end
section
variable {X : Cx}
def rReprQ : List V → Hp → VK → Prop := fun xs H Q => ∃ (p : Addr) (d : PyData), xs = [.ref p] ∧ Dq H (.ref p) d ∧ d.showable = true ∧ d.depth ≤ 50 ∧ d.shown.length ≤ sizeLine ∧ Q (.str d.shown) H
theorem call_reprQ (hgd : X.A.guards = some []) (hu : X.A.units + 65 < cLine) : CallR X (.builtin "repr") rReprQ := fun pins s σ H xs us Q I r h => by
  obtain ⟨p, d, rfl, hd, hs, hdp, hz, q⟩ := h
  obtain ⟨u, rfl, ru⟩ : ∃ u, us = [u] ∧ RelV (.ref p) u := by
    cases r with
    | cons a b => cases b; exact ⟨_, rfl, a⟩
  cases (show u = Value.ref p from ru)
  obtain ⟨as, rd, hsm⟩ := Dq.reads I d _ _ hd ru
  exact repr_of_reads' rd hs (fun _ => hsm) hgd (by omega) (fun _ _ e => e) (fun h' u tk hk => ⟨.str d.shown, H, I.kept hk, ⟨_, rfl⟩, q⟩) hz
end
end FR
set_option Elab.async false
set_option linter.all false
set_option maxRecDepth 100000
set_option maxHeartbeats 2000000
/-! exceptions of the program with one field, value -/
namespace PySem
namespace ExV
open PySem.W PySem.Calls PyProof.Rows PySem.HandSPX
/-! ### the text of __init__ -/
def iA (p1 p2 : Pos) : Arguments := { posonlyargs := [], args := [{ arg := "self", annotation := none, pos := p1 }, { arg := "value", annotation := none, pos := p2 }], vararg := none, kwonlyargs := [], kw_defaults := [], kwarg := none, defaults := [] }
def iB (q1 q2 q3 q4 : Pos) : List Stmt := [.Assign [.Attribute (.Name "self" q1) "value" q2] (.Name "value" q3) q4]
def iS : Scope := { kind := .function, names := [(PySem.Str.ofString "self", .local), (PySem.Str.ofString "value", .local)], isGenerator := false, isCoroutine := false, more := [] }
/-- what the written part says of Low, at C, and of its __init__, at fI -/
structure LowTxt (K : Frag) (mg : Str → Option Value) (cn qn : Str) (C fI : Addr) : Prop where
  gC : mg cn = some (.ref C)
  cls : ∃ nm q N bs bm sn sub ab col dd k0 k1 k2 k3 k5, K.lookup C = some (excClassObj nm q C N bs bm true sn sub ab col dd k0 k1 k2 k3 k5 "ValueError.__new__") ∧ refsVE bm = true
  sa : findIn K (.ref C) "__setattr__" = some (some (.builtin "object.__setattr__"))
  ga : findIn K (.ref C) "__getattribute__" = some (some (.builtin "BaseException.__getattribute__"))
  gg : findIn K (.ref C) "__getattr__" = some none
  noN : findIn K (.ref C) "value" = some none
  iC : findIn K (.ref C) "__init__" = some (some (.ref fI))
  tC : typeIn K (.ref fI) = some (.type "function")
  kC : keepIn K (.ref C) = true
  exC : subIn K (.ref C) (.type "BaseException") = some true
  tyC : typeIn K (.ref C) = some (.type "type")
  hdC : hasDictIn K C = true
  te : exmOne K (.ref C) (.ref C) = some true
  fn : ∃ (oc : Value) (od : Option Addr) (doc pm : Value) (an : Option Addr) (cdv ct : Value) (osl : Array (Option Value)) (p1 p2 q1 q2 q3 q4 : Pos),
    K.lookup fI = some ⟨oc, od, .func (fnOf "__init__" qn (iA p1 p2) (iB q1 q2 q3 q4) iS .none .none doc pm an cdv ct), osl⟩ ∧ codeIn K cdv qn = true
theorem one_size (v : Value) : [v].length ≤ sizeLine := by
  rw [sizeLine_eq]
  exact (by decide : 1 ≤ 16777216)
theorem kept_but {K : Frag} {h h' : Heap} {x : Addr} (X : K.In h) (hx : K.lookup x = none) (k : ∀ b o, b ≠ x → h.get? b = some o → h'.get? b = some o) : K.In h' := fun a o e =>
  k a o (fun z => by rw [z, hx] at e; cases e) (X a o e)
theorem ldC {M : Model} {s : Shared} {name : Str} {scope : Scope} {L a : Addr} {cd : Value} {m : Str → Option Value} {x : Str} {pos : Pos} {v : Value} {Q : Value → Shared → Prop} {A : Around} {E : Value → Shared → Prop} (hn : s.heap.Ns L m) (hv : m x = some v) (h : Q v s)
    (hk : scope.kind = .function := by rfl) (hl : (envOfC name scope L a cd).kindOf x = some .local := by rfl) (hd : (x == ("__debug__" : Str)) = false := by decide) :
    wpAny M A (eval (.Name x pos) (envOfC name scope L a cd)) Q E s := wpAny_Name (wpAny_loadName_local hk hl hn hv h) hd
/-- what __init__ leaves of a fresh exception at x -/
structure InitEnd (h h' : Heap) (x C dx t1 : Addr) (v : Value) : Prop where
  keep : ∀ b o, b ≠ x → h.get? b = some o → h'.get? b = some o
  obj : h'.get? x = some { cls := .ref C, dict := some dx, data := .fields #[.ref t1, .none, .none, .none, .bool false, .none] }
  dbig : h.objs.size ≤ dx
  dne : dx ≠ x
  ns : h'.Ns1 dx (fun y => if y = "value" then some v else none)
/-- a made Low -/
structure OwnMade (h h' : Heap) (e C d : Addr) (v : Value) : Prop where
  keep : ∀ b o, h.get? b = some o → h'.get? b = some o
  new : h.objs.size ≤ e
  obj : ∃ oe vs, h'.get? e = some oe ∧ oe.cls = .ref C ∧ oe.dict = some d ∧ oe.data = .fields vs ∧ vs[1]? = some .none
  dbig : h.objs.size ≤ d
  dne : d ≠ e
  ns : h'.Ns1 d (fun y => if y = "value" then some v else none)
section
variable {prog : Program} {w : World} {A : Around} {E : Value → Shared → Prop} {R : Result → Shared → Prop} {s : Shared} {K : Frag} {mg : Str → Option Value} {C fI : Addr} {cn qn : Str}
theorem low_init (T : LowTxt K mg cn qn C fI) {x t0 : Addr} {v : Value} (X : K.In s.heap) (hlim : s.heap.NoLimit) (hx : s.heap.get? x = some (excO C t0)) (hnx : K.lookup x = none) (hroom : A.depth < recursionLimit)
    (hq : ∀ h' tk dx, InitEnd s.heap h' x C dx t0 v → R (.ok (.ret .none)) { s with heap := h', toks := tk }) :
    codeAny (model prog w) A (.call (.ref fI) ⟨[.ref x, v], []⟩) R s := by
  obtain ⟨oc, od, doc, pm, an, cdv, ct, osl, p1, p2, q1, q2, q3, q4, ho, hcd⟩ := T.fn
  obtain ⟨nm, q, N, bs, bm, sn, sub, ab, col, dd, k0, k1, k2, k3, k5, hC, hbm⟩ := T.cls
  have hcl : clsIn K C = some { name := nm, bases := bs, mro := .ref C :: bm, ns := N, qualname := q, hasDict := true, slotNames := sn, subclasses := sub, abstract := ab, collection := col, hasDel := false } := by unfold clsIn; rw [hC] <;> rfl
  refine Att.call_fn (binds := [("self", .ref x), ("value", v)]) X hlim ho hcd hroom (BindsTo.of_eq (by first | rfl | with_unfolding_all rfl)) (by first | rfl | decide | with_unfolding_all rfl) (fun s₁ IC => ?_) rfl rfl rfl
  obtain ⟨h₁, tk₁, rfl⟩ := IC.toInCall.same
  have k : ∀ b o, s.heap.get? b = some o → h₁.get? b = some o := IC.toInCall.keep
  have hn := IC.toInCall.ns
  have hxL : s.heap.objs.size ≠ x := Nat.ne_of_gt (Heap.lt_size hx)
  have X₁ : K.In h₁ := X.keeps k
  have hx₁ := k _ _ hx
  -- self.by = by
  show wpAny _ _ (execs _ _) _ _ _
  refine wpAny_execs_cons (plainObj_wpAny_Assign_Attribute ?_)
  refine ldC (v := v) hn (by first | rfl | with_unfolding_all rfl | kernel_rfl) (ldC (v := .ref x) hn (by first | rfl | with_unfolding_all rfl | kernel_rfl) ?_)
  refine set_plain X₁ (ox := excO C t0) (od := none) ⟨hx₁, rfl, rfl, trivial⟩ T.sa ?_
  refine exc_osa X₁ hx₁ hcl (show refsVE (.ref C :: bm) = true from hbm) rfl T.noN (fun h₃ tk₃ dx k₃ dn dne hx₃ hn₃ => ?_)
  show wpAny _ _ (execs _ _) _ _ _
  have z : s.heap.objs.size < h₁.objs.size := hn.lt
  exact wpAny_execs_nil (hq h₃ tk₃ dx ⟨fun b o hb e => k₃ b o hb (k b o e), hx₃, Nat.le_of_lt (Nat.lt_of_lt_of_le z dn), dne, hn₃⟩)
theorem low_made (T : LowTxt K mg cn qn C fI) {v : Value} (X : K.In s.heap) (hlim : s.heap.NoLimit) (hroom : A.depth + 1 < recursionLimit)
    (hq : ∀ h' tk e d, OwnMade s.heap h' e C d v → R (.ok (.ret (.ref e))) { s with heap := h', toks := tk }) :
    codeAny (model prog w) A (.call (.ref C) ⟨[v], []⟩) R s := by
  obtain ⟨nm, q, N, bs, bm, sn, sub, ab, col, dd, k0, k1, k2, k3, k5, hC, hbm⟩ := T.cls
  obtain ⟨hp, g, dr, tk, os⟩ := s
  have k : ∀ b o, hp.get? b = some o → ((hp.push (kdv_tup [v])).push (excO C hp.objs.size)).get? b = some o := fun b o e => Heap.get?_push_of_some _ (Heap.get?_push_of_some _ e)
  have hget : ((hp.push (kdv_tup [v])).push (excO C hp.objs.size)).get? (hp.objs.size + 1) = some (excO C hp.objs.size) := by heap_get
  have hnx : K.lookup (hp.objs.size + 1) = none := by
    cases e : K.lookup (hp.objs.size + 1) with
    | none => rfl
    | some o =>
      have z : hp.get? (hp.objs.size + 1) = some o := X _ _ e
      exact absurd (Nat.lt_of_succ_lt (Heap.lt_size z)) (Nat.lt_irrefl _)
  refine call_own F.excBase_ValueError (fun X => refsVE_contains X bm hbm) (X _ _ hC) (looks_findIn X T.iC) (fun self => bind_fn X self T.tC) (one_size v) ?_
  refine low_init (s := ⟨(hp.push (kdv_tup [v])).push (excO C hp.objs.size), g, dr, tk, os⟩) T (X.keeps k) (hlim.keeps k) hget hnx ?_ fun h' tk' dx ⟨k', hx, dn, dne, hns⟩ => ?_
  · show A.depth + 1 < recursionLimit
    exact hroom
  · have old : ∀ b o, hp.get? b = some o → h'.get? b = some o := fun b o e => k' b o (Nat.ne_of_lt (Nat.lt_succ_of_lt (Heap.lt_size e))) (k b o e)
    have z : hp.objs.size + 1 + 1 ≤ dx := by
      first
        | (simpa only [Heap.size_push] using dn)
        | exact dn
        | (have q := dn; rw [Heap.size_push, Heap.size_push] at q; exact q)
    exact ⟨rfl, hq h' tk' (hp.objs.size + 1) dx ⟨old, Nat.le_succ _, ⟨_, _, hx, rfl, rfl, rfl, rfl⟩, Nat.le_trans (Nat.le_trans (Nat.le_succ _) (Nat.le_succ _)) z, dne, hns⟩⟩
end
end ExV
end PySem
namespace L2
open PySem PySem.Spec PyProof.Rows
theorem relO_low {v : V} {v' : Value} (r : RelV v v') (f : Str) : RelO (List.lookup f [(("value" : Str), v)]) (if f = "value" then some v' else none) := by
  by_cases hw : f = "value"
  · subst hw
    rw [if_pos rfl]
    have q : List.lookup ("value" : Str) [(("value" : Str), v)] = some v := by simp [List.lookup]
    rw [q]
    exact r
  · rw [if_neg hw]
    have qw : (f == ("value" : Str)) = false := by simpa using hw
    have q2 : List.lookup f [(("value" : Str), v)] = none := by simp [List.lookup, qw]
    rw [q2]
    trivial
section
variable {X : Cx} {C fI : Addr} {cn qn : Str}
/-- Low(e) -/
def tMkLow (C : Addr) (ta : TA) : St → Hp → XK → Prop := fun σ H Q => ta σ H fun vs H1 => ∃ v, vs = [v] ∧ ∀ d, H1 d = none → Q (.ref C) (some d) (upd H1 d (.xd [(("value" : Str), v)]))
theorem pmk_low {a : Expr} {ta : TA} {p pos : Pos} {k : Nat} (T : PySem.ExV.LowTxt X.K X.mg cn qn C fI) (hr : Room k X.A) (ha : PA X [a] ta) (hdb : (cn == ("__debug__" : Str)) = false := by decide) (hg : Gl X cn := by rfl)
    (he : starEach (a :: []) X.env = (false, eval a X.env) :: starEach [] X.env := by rfl) (hpl : (backTo pos (starEach [] X.env)).any (·.1) = false := by rfl) :
    PMk X (.Call (.Name cn p) [a] [] pos) (tMkLow C ta) := by
  intro pins s σ H Q I h
  refine wpAny_Call_Name_kw (ld_glob I hg T.gC ?_ hdb)
  refine PySem.W.callWith_K (h₀ := X.base) I.ok.mod.kin T.kC (thn (ha.run pos pins s σ H _ I h) fun us s1 hh => ?_) he hpl
  obtain ⟨vs, H1, I1, r1, v, ev, q1⟩ := hh
  subst ev
  refine ⟨I1.kIn, ?_⟩
  cases r1 with
  | cons rv rn =>
    rename_i v' us'
    cases rn
    show wpAny _ _ (call (.ref C) [v']) _ _ _
    have hlim := I1.nolimit
    obtain ⟨hp, g, dr, tk, os⟩ := s1
    refine wpAny_call (PySem.ExV.low_made T I1.kIn hlim (by have := hr.dp; omega) fun h' tk' e d M => ?_)
    show MkP X pins σ Q (.ref e) ⟨h', g, dr, tk', os⟩
    obtain ⟨oe, fv, hoe, hc, hd, hdat, h1⟩ := M.obj
    have hns := M.ns
    obtain ⟨G', g1, g2⟩ := restrict h' fun b => decide (b ≠ e)
    have gk : ∀ b, b ≠ e → G'.get? b = h'.get? b := fun b hb => g1 b (decide_eq_true hb)
    have ge : G'.get? e = none := g2 e (by simp)
    have old : ∀ b o, hp.get? b = some o → G'.get? b = some o := fun b o q => (gk b (Nat.ne_of_lt (Nat.lt_of_lt_of_le (Heap.lt_size q) M.new))).trans (M.keep b o q)
    have ob : ObjOk X.prog X.w (upd H1 d (.xd [(("value" : Str), v)])) G' d (.xd [(("value" : Str), v)]) :=
      ⟨_, hns.at (fun o q => (gk d M.dne).trans q), fun f => relO_low rv f⟩
    have J : Inv X pins σ (upd H1 d (.xd [(("value" : Str), v)])) ⟨G', g, dr, tk', os⟩ := I1.laid (t' := tk') old M.dbig ob
    refine ⟨e, oe, fv, ⟨G', g, dr, tk', os⟩, _, .ref C, some d, rfl, J, fun b o q => ?_, ge, hoe, ⟨hc, hd⟩, hdat, h1, ?_, rfl, I1.bare, raises_own T.exC T.tyC, q1 d (I1.hok.fresh M.dbig)⟩
    · by_cases hb : b = e
      · have q' : G'.get? b = some o := q
        rw [hb, ge] at q'; cases q'
      · exact (gk b hb).symm.trans q
    · rw [upd_ne (Ne.symm M.dne)]
      exact I1.hok.fresh M.new
/-- raise Low(e) -/
def tRaiseLow (C : Addr) (W : WX) (ta : TA) : TS := fun _ σ H => tMkLow C ta σ H fun cls d H' => W cls d σ H'
theorem ps_raiseLow {a : Expr} {ta : TA} {W : WX} {p pos pos2 : Pos} {k : Nat} (hc : X.calm = true) (T : PySem.ExV.LowTxt X.K X.mg cn qn C fI) (hr : Room k X.A) (tk : Takes X W) (ha : PA X [a] ta) (hdb : (cn == ("__debug__" : Str)) = false := by decide) (hg : Gl X cn := by rfl)
    (he : starEach (a :: []) X.env = (false, eval a X.env) :: starEach [] X.env := by rfl) (hpl : (backTo pos (starEach [] X.env)).any (·.1) = false := by rfl) :
    PS X (.Raise (some (.Call (.Name cn p) [a] [] pos)) none pos2) (tRaiseLow C W ta) := ps_raise hc tk (pmk_low T hr ha hdb hg he hpl)
/-- low.by, low the exception that the suite holds (at a; its class cls, its dict d) -/
def tByLow (C : Addr) (a : Addr) (cls : Value) (d : Option Addr) (te : TE) : TE := fun σ H Q => te σ H fun x H1 => x = .ref a ∧ cls = .ref C ∧ ∃ (dd : Addr) (v : V), d = some dd ∧ H1 dd = some (.xd [(("value" : Str), v)]) ∧ Q v H1
theorem pe_byLow {a : Addr} {oe : Obj} {cls : Value} {d : Option Addr} {pn : List (Addr × Obj)} {e : Expr} {te : TE} {pos : Pos} (T : PySem.ExV.LowTxt X.K X.mg cn qn C fI) (hz : Zc cls d oe) (hf : ∃ vs, oe.data = .fields vs) (he : PE (X.suite a ((a, oe) :: pn)) e te)
    (hb : attributeBase e "value" X.env (eval e X.env) = eval e X.env := by rfl) :
    PE (X.suite a ((a, oe) :: pn)) (.Attribute e "value" pos) (tByLow C a cls d te) := by
  refine ⟨fun pins s σ H Q I h => ?_⟩
  refine attr_of hb (thn (he.run pins s σ H _ I h) fun u s1 hh => ?_)
  obtain ⟨x, H1, I1, rx, ex, ec, dd, v, ed, ea, q⟩ := hh
  subst ex
  obtain rfl : u = Value.ref a := rx
  subst ec
  subst ed
  obtain ⟨ha, _⟩ := I1.pin (a, oe) (List.mem_append_left _ List.mem_cons_self)
  obtain ⟨vs, hd⟩ := hf
  have hx : ObjOk X.prog X.w H1 s1.heap dd (.xd [(("value" : Str), v)]) := I1.hok dd _ ea
  obtain ⟨mA, hns, hr⟩ := hx
  obtain ⟨od, ho, hl⟩ := lookIn_ns hns
  have l : List.lookup ("value" : Str) [(("value" : Str), v)] = some v := by simp [List.lookup]
  obtain ⟨u, hu, ru⟩ := RelO.some_of (v := v) (o := mA "value") (by rw [← l]; exact hr "value")
  have J : PySem.W.InstAt s1.heap a oe C (some od) := ⟨ha, hz.1, by unfold PySem.W.notCls; rw [hd] <;> rfl, by rw [hz.2]; exact ho⟩
  exact HandSPX.exc_get I1.kIn J T.ga T.gg T.exC (PySem.W.findObj_own T.hdC T.noN rfl (by rw [hl, hu])) (handed_of ru) ⟨v, H1, I1.tok _, ru, q⟩
end
end L2
set_option Elab.async false
set_option linter.all false
set_option maxRecDepth 100000
set_option maxHeartbeats 2000000
/-! try with several clauses «except C as n» of one name; what no clause takes does not come -/
namespace FR
open PySem PySem.Spec PyProof.Rows L2 TL
/-- behind a suite the clause's name is gone -/
def gone (i : Nat) (D : Ends) : Ends := { nx := fun σ H => D.nx (σ.set i none) H, rt := D.rt, bk := fun σ H => D.bk (σ.set i none) H, ct := fun σ H => D.ct (σ.set i none) H }
def wAsM (K : PySem.W.Frag) (i : Nat) (D : Ends) : List (Value × (Addr → Value → Option Addr → TS)) → WX
  | [] => fun _ _ _ _ => False
  | (c, ts) :: r => fun cls d σ H => ∃ b, PySem.W.exmOne K cls c = some b ∧ (b = true → ∀ a, H a = none → ts a cls d (gone i D) (σ.set i (some (.ref a))) H) ∧ (b = false → wAsM K i D r cls d σ H)
inductive ClausesOk (X : Cx) (n : Str) : List ExceptHandler → List (Value × (Addr → Value → Option Addr → TS)) → Prop
  | nil {hds : List ExceptHandler} : ClausesOk X n hds []
  | cons {x : Str} {c : Value} {ts : Addr → Value → Option Addr → TS} {st : Stmt} {sts : List Stmt} {p1 p2 : Pos} {hds : List ExceptHandler} {l : List (Value × (Addr → Value → Option Addr → TS))} (hc : Names X x c)
      (hsu : ∀ (a : Addr) (oe : Obj) (cls : Value) (d : Option Addr) (pn : List (Addr × Obj)), Zc cls d oe → (∃ vs, oe.data = .fields vs) → PSs (X.suite a ((a, oe) :: pn)) (st :: sts) (ts a cls d)) (r : ClausesOk X n hds l) :
      ClausesOk X n (.ExceptHandler (some (.Name x p1)) (some n) (st :: sts) p2 :: hds) ((c, ts) :: l)
section
variable {X : Cx} {n : Str} {i : Nat} {body : List Stmt} {hd0 : ExceptHandler} {hds : List ExceptHandler} {l : List (Value × (Addr → Value → Option Addr → TS))} {pos : Pos} {tb : WX → TS}
theorem ps_try_asM (hs : X.stack = X.env :: X.outer) (hf : X.env.frame = some X.env.locals) (hN : X.N.Nodup) (hi : X.N[i]? = some n) (hln : X.env.kindOf n = some .local)
    (hb : ∀ (W : WX) (pn : List (Addr × Obj)) (xe : Value → Shared → Prop), Takes (X.tr pn xe) W → PassesOwn (model X.prog X.w) X.A X.env xe → PSs (X.tr pn xe) body (tb W))
    (hh : ClausesOk X n (hd0 :: hds) l) : PS X (.Try body (hd0 :: hds) [] [] pos) (fun D σ H => tb (wAsM X.K i D l) D σ H) := by
  refine ⟨fun pins s σ H D I h => wpAny_Try_except ?_⟩
  have okX := I.ok
  have fr : X.A.frames = some (X.env :: X.outer) := by rw [okX.frames, hs]
  let land : Value → Shared → Prop := fun e s1 => wpAny (model X.prog X.w) X.A (noteFrame e X.env) (fun _ s2 => wpAny (model X.prog X.w) X.A (setFlight e none) (fun _ s3 => wpAny (model X.prog X.w) X.A (handleBy e X.env (hd0 :: hds)) (SP X pins D) X.xe s3) X.xe s2) X.xe s1
  have caught : ∀ (u : Value) (s1 : Shared), XE (X.tr (X.pn ++ pins) land) (wAsM X.K i D l) u s1 → land u s1 := by
    intro u s1 xx
    obtain ⟨a, B, sI, _, σ1, H1, cls, d, rfl, J0, nb, up, sky, na, os, ag, w⟩ := xx
    have J : Inv X pins σ1 H1 sI := J0.ofTry okX
    show wpAny (model X.prog X.w) X.A (noteFrame (.ref a) X.env) _ _ _
    refine Sky.land Zc.steady fr hf (by rw [← hs]; exact sky) fun g1 fl1 up1 => ?_
    have K1 : Inv X pins σ1 H1 { s1 with heap := g1 } := J.landed nb fl1.1 (up.trans up1) os ag
    obtain ⟨ob, fv, e1, z1, d1⟩ := fl1.there
    have out : a ∉ frs (X.env :: X.outer) := fun m => by
      obtain ⟨_, o2, e2, q⟩ := fl1.2.2.1.mem m
      cases e1.symm.trans e2
      exact q _ d1
    have n1 : a ≠ X.env.locals := fun z => out (List.mem_filterMap.mpr ⟨_, List.mem_cons_self, by rw [hf, z]⟩)
    have n2 : a ∉ X.fs := fun m => by
      obtain ⟨e2, m2, q⟩ := List.mem_filterMap.mp m
      exact out (List.mem_filterMap.mpr ⟨e2, List.mem_cons_of_mem _ m2, q⟩)
    have S1 := K1.suite e1 d1 na n1 n2
    have each : ∀ {cs : List ExceptHandler} {ws : List (Value × (Addr → Value → Option Addr → TS))}, ClausesOk X n cs ws → wAsM X.K i D ws cls d σ1 H1 → wpAny (model X.prog X.w) X.A (handleBy (.ref a) X.env cs) (SP X pins D) X.xe { s1 with heap := g1 } := by
      intro cs ws ck
      induction ck with
      | nil => exact fun z => z.elim
      | @cons x c ts st sts p1 p2 more wmore hc hsu _ ih =>
        rintro ⟨b, hm, yes, no⟩
        refine wpAny_handleBy_cons (codeAny_handlers_test ?_) (fun q => by cases q)
        have ty : PySem.W.Looks (model X.prog X.w) g1 (typeOf (.ref a)) cls := fun _ _ _ _ k q => wpAny_typeOf_ref (k _ _ e1) (by rw [z1.1]; exact q)
        have one := PySem.W.exm_one (M := model X.prog X.w) K1.kIn ty hm
        have named : ∀ {Q E : Value → Shared → Prop}, Q c { s1 with heap := g1 } → wpAny (model X.prog X.w) (X.A.mark (some (.ref a))) (eval (.Name x p1) X.env) Q E { s1 with heap := g1 } := by
          intro Q E q
          obtain ⟨y1, y2, y3 | ⟨y3, y4, y5⟩⟩ := hc
          · exact ld_glob (X := X.suite a ((a, ob) :: (X.pn ++ pins))) S1 y1 y3 q y2
          · exact ld_blt (X := X.suite a ((a, ob) :: (X.pn ++ pins))) S1 y1 y3 y4 q y5 y2
        refine named (one.here ?_)
        cases b with
        | false => exact ih (no rfl)
        | true =>
          refine codeAny_handlers_suite_as (HandSPX.lands_againZ fl1 fun g2 fl2 up2 => ?_)
          obtain ⟨oc, fw, e2, z2, d2⟩ := fl2.there
          have K2 : Inv X pins σ1 H1 { s1 with heap := g2 } := J.landed nb fl2.1 ((up.trans up1).trans up2) os ag
          have S2 := K2.suite e2 d2 na n1 n2
          refine store_ok (X := X.suite a ((a, oc) :: (X.pn ++ pins))) (v := .ref a) S2 hN hi (.inl hln) rfl (fun s5 S5 => ?_) (.inr hln)
          refine wpAny_mono ((hsu a oc cls d (X.pn ++ pins) z2 ⟨_, d2⟩).run [] s5 _ H1 _ S5 (yes rfl a na)) (fun f s6 hz => ?_) (fun _ _ z => z.elim)
          have ends : ∀ {σ6 : L2.St} {H6 : Hp} {Q : Shared → Prop}, Inv (X.suite a ((a, oc) :: (X.pn ++ pins))) [] σ6 H6 s6 → (∀ s7, Inv X pins (σ6.set i none) H6 s7 → Q s7) → wpAny (model X.prog X.w) X.A (do bindName X.env n .none; unbindBehindTheSuite X.env n p2) (fun _ s7 => Q s7) X.xe s6 :=
            fun S6 hq => gone_ok (S6.unsuite okX) hN hi hln hq
          match f, hz with
          | .next, ⟨_, _, S6, q6⟩ => exact ends S6 fun _ J7 => ⟨_, _, J7, q6⟩
          | .brk, ⟨_, _, S6, q6⟩ => exact ends S6 fun _ J7 => ⟨_, _, J7, q6⟩
          | .cont, ⟨_, _, S6, q6⟩ => exact ends S6 fun _ J7 => ⟨_, _, J7, q6⟩
          | .ret _, ⟨_, _, _, S6, r6, q6⟩ => exact ends S6 fun _ J7 => ⟨_, _, _, J7, r6, q6⟩
    exact each hh w
  refine wpAny_mono ((hb _ _ land caught PassesOwn.looking).run [] s σ H D (I.toTry _) h) (fun f s1 hz => ?_) (fun _ _ z => z)
  match f, hz with
  | .next, ⟨_, _, J, q⟩ => exact wpAny_execs_nil ⟨_, _, J.ofTry okX, q⟩
  | .brk, ⟨_, _, J, q⟩ => exact ⟨_, _, J.ofTry okX, q⟩
  | .cont, ⟨_, _, J, q⟩ => exact ⟨_, _, J.ofTry okX, q⟩
  | .ret _, ⟨_, _, _, J, r, q⟩ => exact ⟨_, _, _, J.ofTry okX, r, q⟩
end
end FR
set_option Elab.async false
set_option linter.all false
set_option maxRecDepth 100000
/-! isinstance of the exception that a suite holds, one with fields -/
namespace FR
open PySem PySem.Spec PyProof.Rows L2 TL
/-- the exception that the suite holds is one of the class D, with its own dict -/
def HeldE (K : PySem.W.Frag) (cls : Value) (d : Option Addr) (H : Hp) (D : Addr) : Prop := cls = .ref D ∧ ExcC K D ∧ ∃ (dd : Addr) (fs : List (Str × V)), d = some dd ∧ H dd = some (.xd fs)
section
variable {X : Cx} {a : Addr} {oe : Obj} {pn : List (Addr × Obj)} {cls : Value} {d : Option Addr} {pins : List (Addr × Obj)} {σ : L2.St} {H : Hp} {s : Shared} {D : Addr}
theorem kit_held (hz : Zc cls d oe) (hf : ∃ vs, oe.data = .fields vs) (I : Inv (X.suite a ((a, oe) :: pn)) pins σ H s) (h : HeldE X.K cls d H D) : ∃ od, PySem.W.KitX X.K (.ref a) (.ref D) (fun g => PySem.W.InstAt g a oe D (some od)) ∧ PySem.W.InstAt s.heap a oe D (some od) := by
  obtain ⟨rfl, C, dd, fs, rfl, hx⟩ := h
  obtain ⟨hget, _⟩ := I.pin (a, oe) (List.mem_append_left _ List.mem_cons_self)
  obtain ⟨vs, hv⟩ := hf
  obtain ⟨mA, hns, _⟩ := (show ObjOk X.prog X.w H s.heap dd (.xd fs) from I.hok dd _ hx)
  obtain ⟨od, ho, _⟩ := lookIn_ns hns
  obtain ⟨cd, hc, _⟩ := PySem.W.any_some C.hd
  refine ⟨od, PySem.W.kitx_exc (by rw [hc]; rfl) C.hg C.hk C.hs C.ha C.hn C.ht C.hm, hget, hz.1, ?_, ?_⟩
  · unfold PySem.W.notCls
    rw [hv] <;> rfl
  · rw [hz.2]
    exact ho
def rIsH (K : PySem.W.Frag) (a : Addr) (cls : Value) (d : Option Addr) : List V → Hp → VK → Prop := fun xs H Q => ∃ (D : Addr) (c : V) (cv : Value) (b : Bool), HeldE K cls d H D ∧ xs = [.ref a, c] ∧ ClsV c cv ∧ PySem.W.kitOne K (.ref D) cv = some b ∧ Q (.bl b) H
theorem call_isH (hz : Zc cls d oe) (hf : ∃ vs, oe.data = .fields vs) : CallR (X.suite a ((a, oe) :: pn)) (.builtin "isinstance") (rIsH X.K a cls d) := by
  intro pins s σ H xs us Q I r h
  obtain ⟨D, c, cv, b, hh, rfl, hc, e, q⟩ := h
  cases r with
  | cons rx rr =>
    cases rr with
    | cons rt rr =>
      cases rr
      cases (show _ = Value.ref a from rx)
      cases hc.eq rt
      obtain ⟨od, Z, J⟩ := kit_held hz hf I hh
      exact PySem.W.kia_one Z I.kIn J e (fun z => nomatch z) fun tk => ⟨.bl b, H, I.tok tk, rfl, q⟩
def rIsHT (K : PySem.W.Frag) (a : Addr) (cls : Value) (d : Option Addr) : List V → Hp → VK → Prop := fun xs H Q => ∃ (D tp : Addr) (cs : List V) (cvs : List Value) (b : Bool), HeldE K cls d H D ∧ xs = [.ref a, .ref tp] ∧ H tp = some (.tup cs) ∧ Paired ClsV cs cvs ∧ PySem.W.kitAny K (.ref D) cvs = some b ∧ Q (.bl b) H
theorem call_isHT (hz : Zc cls d oe) (hf : ∃ vs, oe.data = .fields vs) : CallR (X.suite a ((a, oe) :: pn)) (.builtin "isinstance") (rIsHT X.K a cls d) := by
  intro pins s σ H xs us Q I r h
  obtain ⟨D, tp, cs, cvs, b, hh, rfl, ht, hc, e, q⟩ := h
  cases r with
  | cons rx rr =>
    cases rr with
    | cons rt rr =>
      cases rr
      cases (show _ = Value.ref a from rx)
      cases (show _ = Value.ref tp from rt)
      obtain ⟨od, Z, J⟩ := kit_held hz hf I hh
      obtain ⟨_, its, rv, ⟨oc, od2, dt, sl⟩, h1, h2, n, h3⟩ := (show ObjOk X.prog X.w H s.heap tp (.tup cs) from I.hok tp _ ht)
      have e3 := ClsV.all hc rv
      subst e3
      simp only at h2 h3
      subst h2 h3
      exact PySem.W.kia_tup Z I.kIn J h1 e (fun z => nomatch z) fun tk => ⟨.bl b, H, I.tok tk, rfl, q⟩
end
end FR
set_option Elab.async false
set_option linter.all false
set_option maxRecDepth 100000
/-! a text beside a dict; «x not in texts» for anything -/
namespace FR
open PySem PySem.Spec PyProof.Rows L2 TL PySem.SeqAt
theorem str_eq_dict (b : Str) (u : Tok) (l : Addr) (c : Value) (es : Array DictEntry) (n : Nat) (dd : Option Addr) (sl : Array (Option Value)) :
    Meets (Builtin.«str.__eq__» ⟨[.str b u, .ref l], []⟩) (fun _ R s => s.heap.get? l = some { cls := c, dict := dd, data := .dict es n, slots := sl } ∧ R (.ok (.ret .notImplemented)) s) :=
  .of_wp fun prog w A R s h => by
    obtain ⟨hp, g, d, tk, os⟩ := s
    obtain ⟨hl, h⟩ := h
    wp_walk using wpAny_loadPart' hl, wpAny_load hl
    exact ⟨_, rfl, h⟩
theorem dict_eq_str (b : Str) (u : Tok) (l : Addr) (c : Value) (es : Array DictEntry) (n : Nat) (dd : Option Addr) (sl : Array (Option Value)) :
    Meets (Builtin.«dict.__eq__» ⟨[.ref l, .str b u], []⟩) (fun _ R s => s.heap.get? l = some { cls := c, dict := dd, data := .dict es n, slots := sl } ∧ R (.ok (.ret .notImplemented)) s) :=
  .of_wp fun prog w A R s h => by
    obtain ⟨hp, g, d, tk, os⟩ := s
    obtain ⟨hl, h⟩ := h
    have f1 := F.sub_str_dict
    wp_walk using wpAny_loadPart' hl, wpAny_load hl
    exact ⟨_, rfl, h⟩
theorem eqAt_str_dict {A : Around} {s : Shared} {l : Addr} {o : Obj} {es : Array DictEntry} {n : Nat} (b : Str) (u : Tok) (ho : s.heap.get? l = some o) (hx : o.cls = .type "dict") (hd : o.data = .dict es n) (hu : A.units < cLine) : EqAt A s (.str b u) (.ref l) false := fun prog w E Q h => by
  unfold eqBool
  refine wpAny_holding (wpAny_ite_split (fun hab => absurd (eq_of_beq hab) nofun) (fun _ => wpAny_bind ?_))
  obtain ⟨cls, dd, data, sl⟩ := o
  simp only at hx hd
  subst hx hd
  exact rc_eq_decline_or (k := false) (typeIs_str s b u) ⟨_, ho, rfl⟩ (by decide) F.sub_dict_str F.slot_str_eq F.slot_dict_eq_refl
    (fun _ hq => call_meets F.slot_str_eq (typeIs_str s b u) F.entry_str_eq (F.args_str_eq_2 _ _) (str_eq_dict b u l (.type "dict") es n dd sl) ⟨ho, hq⟩)
    (fun _ hq => call_meets F.slot_dict_eq_refl ⟨_, ho, rfl⟩ F.entry_dict_eq (F.args_dict_eq_2 _ _) (dict_eq_str b u l _ es n dd sl) ⟨ho, hq⟩)
    (fun _ hq => wpAny_of_eq (rfl : isSame (.str b u) (.ref l) = pure false) hq) (.inr hu) (wpAny_truthy_bool h)
section
variable {X : Cx}
theorem vals_strs : ∀ {ws : List Str} {us : List Value}, Vals (ws.map V.str) us → ∀ u ∈ us, ∃ x t, u = Value.str x t
  | [], _, h, u, hu => by
    cases h
    simp at hu
  | w :: r, _, .cons a b, u, hu => by
    rcases List.mem_cons.mp hu with rfl | hu
    · obtain ⟨t, rfl⟩ := a
      exact ⟨_, t, rfl⟩
    · exact vals_strs b u hu
/-- what «v not in the texts ws» gives -/
def NInW (K : PySem.W.Frag) (H : Hp) (v : V) (ws : List Str) (r : Bool) : Prop := (flatV v = true ∧ (!inV v (ws.map V.str)) = r) ∨ (∃ d, Dp K H v d ∧ SeqAt.shaped d = true ∧ SeqAt.shaped (.list (ws.map .str)) = true ∧ (!(ws.map PyData.str).any fun z => PyData.eqv z d) = r) ∨
  ∃ (a : Addr) (kvs : List (Key × V)), v = .ref a ∧ H a = some (.dK kvs) ∧ true = r
def rNotInW (K : PySem.W.Frag) : R2 := fun x y H Q => ∃ (p : Addr) (ws : List Str) (r : Bool), y = .ref p ∧ SqL K H p (ws.map V.str) ∧ NInW K H x ws r ∧ Q (.bl r) H
theorem op_notInW (hu : X.A.units + 65 < cLine) : OpR X (compareOp .NotIn) (rNotInW X.K) := by
  intro pins s σ H x y v u Q I rx ry h
  obtain ⟨p, ws, r, rfl, hp, ⟨hf, rfl⟩ | ⟨d, hd, s1, s2, rfl⟩ | ⟨a, kvs, rfl, ha, rfl⟩, q⟩ := h
  · exact op_notIn_seq pins s σ H x _ v u Q I rx ry ⟨p, _, rfl, .inl hp, hf, flat_strs ws, q⟩
  · exact op_notInD hu pins s σ H x _ v u Q I rx ry ⟨d, _, hd, .lst hp (dpAll_strs ws), s1, s2, q⟩
  · cases (show v = Value.ref a from rx)
    cases (show u = Value.ref p from ry)
    obtain ⟨_, _, vs, kv, o, es, ep, e, hx, hd, _, _, _⟩ := (show ObjOk X.prog X.w H s.heap a (.dK _) from I.hok _ _ ha)
    obtain ⟨its, rv, hl, _⟩ := I.list hp
    refine notIn_listAt (fun _ => false) hl.isList (fun z hz => ?_) ⟨.bl true, H, I, ?_, q⟩
    · obtain ⟨x, t, rfl⟩ := vals_strs rv z (by simpa using hz)
      exact eqAt_str_dict x t e hx.1 hd (by show X.A.units + 1 < cLine; omega)
    · show Value.bool _ = Value.bool true
      simp
theorem op_notInWK {X : Cx} {K : PySem.W.Frag} (h : X.K = K) (hu : X.A.units + 65 < cLine) : OpR X (compareOp .NotIn) (rNotInW K) := h ▸ op_notInW hu
end
end FR
set_option Elab.async false
set_option linter.all false
set_option maxRecDepth 100000
/-! raising defs with a star parameter, called -/
namespace FR
open PySem PySem.Spec PyProof.Rows L2 TL
theorem okStarX {P : Program} {w : World} {K : PySem.W.Frag} {mg : Str → Option Value} {base : Heap} {x qual pv : Str} {st : Stmt} {f : Addr} {fd : FuncData} {N ps : List Str} {k : Nat} {sp : Sp} (F : L2.Fun K x qual st f fd) (S : FnScope N (ps ++ [pv]) (defScope st))
    (hb : ∀ (kV doc pm : Value) (an : Option Addr) (cdv ct : Value) (us rest : List Value), us.length = ps.length → bindArgs (PySem.W.fnOf x qual (defArgs st) (defBody st) (defScope st) .none kV doc pm an cdv ct) ⟨us ++ rest, []⟩ = (newTuple rest >>= fun t => pure (ps.zip us ++ [(pv, t)])))
    (hbody : ∀ (cdv : Value) (A : Around) (outer : List Env) (s : Shared) (H : Hp) (vs : List V) (Q : VK) (E : XK), Room k (A.deeper (envOfC qual (defScope st) s.heap.objs.size f cdv)) → sp vs H Q E →
      ∃ t, PSs (cxOf (L2.CX P w) P w K mg base N qual (defScope st) f cdv A outer s H E) (defBody st) t ∧ t { nx := fun _ H' => Q .non H', rt := Q } (start N vs) H) :
    FnR P w K mg base (L2.CX P w) (k + 1) f (fun vs H Q E => ∃ ws rest, vs = ws ++ rest ∧ ws.length = ps.length ∧ rest.length ≤ sizeLine ∧ ∀ p, H p = Option.none → sp (ws ++ [V.ref p]) (upd H p (.tup rest)) Q E) := by
  obtain ⟨oc, od, kV, doc, pm, an, cdv, ct, osl, rfl, lk, hcd⟩ := F.ex
  exact StX.fn_star lk hcd S StX.cxUp (hb kV doc pm an cdv ct) fun A outer s H vs Q E hr hsp => hbody cdv A outer s H vs Q E hr hsp
section
variable {X : Cx} {CX : CXT} {k : Nat} {f : Addr} {sp : Sp} {E : L2.St → XK} {x : Str} {e : Expr} {es : List Expr} {t : TA} {p pos : Pos}
theorem pe_callRX (F : FnR X.prog X.w X.K X.mg X.base CX k f sp) (hr : Room k X.A) (hk : PySem.W.keepIn X.K (.ref f) = true) (hg : Gl X x) (hm : X.mg x = some (.ref f)) (hx : ∀ σ, PassesAt CX X σ (E σ)) (ha : PA X (e :: es) t) (hd : (x == ("__debug__" : Str)) = false := by decide)
    (he : starEach (e :: es) X.env = (false, eval e X.env) :: starEach es X.env := by rfl) (hpl : (backTo pos (starEach es X.env)).any (·.1) = false := by rfl) :
    PE X (.Call (.Name x p) (e :: es) [] pos) (fun σ H Q => t σ H fun vs H1 => sp vs H1 Q (E σ)) := ⟨fun pins s σ H Q I h => by
  refine wpAny_Call_Name_kw (ld_glob I hg hm (PySem.W.callWith_K (h₀ := X.base) I.ok.mod.kin hk (thn (ha.run pos pins s σ H _ I h) fun us s1 hz => ?_) he hpl) hd)
  obtain ⟨vs, H1, I1, r, q⟩ := hz
  refine ⟨I1.kIn, wpAny_call (codeAny_mono (F X.A X.stack s1 H1 us vs Q (E σ) hr I1.env0 r q) fun rr s' hq => ?_)⟩
  match rr, hq with
  | .error ee, hq => exact hx σ pins H1 s1 ee s' I1 hq
  | .ok (.ret u), hq => exact I1.after hq
  | .ok .next, hq => exact hq.elim
  | .ok .brk, hq => exact hq.elim
  | .ok .cont, hq => exact hq.elim⟩
end
end FR
set_option Elab.async false
set_option linter.all false
set_option maxRecDepth 100000
/-! how long a shown list is; facts that hang on some addresses alone -/
namespace FR
open PySem PySem.Spec PyProof.Rows L2 TL
theorem len_sep : (Str.ofString ", ").length = 2 := by decide +kernel
theorem len_open : (Str.ofString "[").length = 1 := by decide +kernel
theorem len_close : (Str.ofString "]").length = 1 := by decide +kernel
theorem len_none : (Str.ofString "").length = 0 := by decide +kernel
theorem shown3 (a b c : PyData) : (PyData.list [a, b, c]).shown.length = a.shown.length + b.shown.length + c.shown.length + 6 := by
  show (listText [a.shown, b.shown, c.shown]).length = _
  unfold listText
  rw [len_app, len_close]
  show ((((((Str.ofString "[" ++ Str.ofString "") ++ a.shown) ++ Str.ofString ", ") ++ b.shown) ++ Str.ofString ", ") ++ c.shown).length + 1 = _
  rw [len_app, len_app, len_app, len_app, len_app, len_app, len_open, len_none, len_sep]
  omega
theorem shown2 (a b : PyData) : (PyData.list [a, b]).shown.length = a.shown.length + b.shown.length + 4 := by
  show (listText [a.shown, b.shown]).length = _
  unfold listText
  rw [len_app, len_close]
  show ((((Str.ofString "[" ++ Str.ofString "") ++ a.shown) ++ Str.ofString ", ") ++ b.shown).length + 1 = _
  rw [len_app, len_app, len_app, len_app, len_open, len_none, len_sep]
  omega
theorem Keep.trans0 {H H1 : Hp} {D : Addr} {o : HO} (k : Keep [] H H1) (hD : H D = none) : Keep [] H (upd H1 D o) := fun b u e hb => by
  rw [upd_ne (ne_of_none e hD)]
  exact k b u e hb
def Held (S : List Addr) (H : Hp) (F : Hp → Prop) : Prop := (∀ a ∈ S, H a ≠ none) ∧ ∀ H', (∀ a ∈ S, H' a = H a) → F H'
section
variable {S T M : List Addr} {H H' : Hp} {F G : Hp → Prop}
theorem Held.at (h : Held S H F) : F H := h.2 H fun _ _ => rfl
theorem Held.mono (h : Held S H F) (k : Keep M H H') (d : ∀ a ∈ S, a ∉ M) : Held S H' F := by
  have e : ∀ a ∈ S, H' a = H a := fun a ha => by
    cases e : H a with
    | none => exact absurd e (h.1 a ha)
    | some o => exact k a o e (d a ha)
  exact ⟨fun a ha => by rw [e a ha]; exact h.1 a ha, fun H2 e2 => h.2 H2 fun a ha => (e2 a ha).trans (e a ha)⟩
theorem Held.mono0 (h : Held S H F) (k : Keep [] H H') : Held S H' F := h.mono k (by simp)
theorem Held.and (h : Held S H F) (g : Held T H G) : Held (S ++ T) H (fun H => F H ∧ G H) :=
  ⟨fun a ha => (List.mem_append.mp ha).elim (h.1 a) (g.1 a), fun H2 e => ⟨h.2 H2 fun a ha => e a (List.mem_append_left _ ha), g.2 H2 fun a ha => e a (List.mem_append_right _ ha)⟩⟩
theorem Held.imp (h : Held S H F) (i : ∀ H, F H → G H) : Held S H G := ⟨h.1, fun H2 e => i _ (h.2 H2 e)⟩
theorem Held.none (h : ∀ H, F H) : Held [] H F := ⟨by simp, fun H2 _ => h H2⟩
theorem Held.one {a : Addr} {o : HO} (h : H a = some o) (i : ∀ H2 : Hp, H2 a = some o → F H2) : Held [a] H F := ⟨fun x hx => by rw [List.mem_singleton.mp hx, h]; simp, fun H2 e => i H2 ((e a (by simp)).trans h)⟩
theorem Held.fresh (h : Held S H F) {p : Addr} (np : H p = Option.none) : p ∉ S := fun hp => h.1 p hp np
end
theorem Dq.mono {H H' : Hp} (k : Keep [] H H') {v : V} {d : PyData} (h : Dq H v d) : Dq H' v d := by
  refine Dq.rec (motive_1 := fun v d _ => Dq H' v d) (motive_2 := fun vs ds _ => DqAll H' vs ds) (motive_3 := fun vs ds _ => DqKv H' vs ds) .non .bl .int .str ?_ ?_ ?_ .nil (fun _ _ a b => .cons a b) .nil (fun _ _ a b => .cons a b) h
  · intro a xs ds hx hb _ ih
    exact .lst (k _ _ hx (by simp)) hb ih
  · intro a xs ds hx _ ih
    exact .tup (k _ _ hx (by simp)) ih
  · intro a kvs ds hx _ ih
    exact .dct (k _ _ hx (by simp)) ih
theorem u65 {k : Nat} {A : Around} (r : Room k A) : A.units + 65 < cLine := by have := r.un; omega
theorem okG0 {P : Program} {w : World} {K : PySem.W.Frag} {mg : Str → Option Value} {base : Heap} {k : Nat} {f : Addr} {sp : Sp} {x qual : Str} {st : Stmt} {fd : FuncData} {N ps : List Str} (F : L2.Fun K x qual st f fd) (S : FnScope N ps (defScope st)) (B : Binds K fd ps []) (hlen : ∀ vs H Q E, sp vs H Q E → vs.length = ps.length)
    (hbody : ∀ (cdv : Value) (A : Around) (outer : List Env) (s : Shared) (H : Hp) (vs : List V) (Q : VK) (E : XK), A.guards = some [] → Room k (A.deeper (envOfC qual (defScope st) s.heap.objs.size f cdv)) → sp vs H Q E →
      ∃ t, PSs (cxOf CX0 P w K mg base N qual (defScope st) f cdv A outer s H E).nox (defBody st) t ∧ t { nx := fun _ H' => Q .non H', rt := Q } (start N vs) H) : FnG P w K mg base CX0 (k + 1) f sp :=
  okG F S B hlen fun cdv A outer s H vs Q E hg hr hs => (hbody cdv A outer s H vs Q E hg hr hs).elim fun t h => ⟨t, h.1.nox, h.2⟩
end FR
set_option Elab.async false
set_option linter.all false
set_option maxRecDepth 100000
/-! what `except` and isinstance say of two classes of the text -/
namespace FR
open PySem PySem.Spec PyProof.Rows L2
/-- an error of the class at S is what «except T» names, or not -/
theorem exm_of {K : PySem.W.Frag} {t S : Addr} {b : Bool} (h1 : PySem.W.subIn K (.ref S) (.type "BaseException") = some true) (h2 : PySem.W.isClsIn K S = true) (h3 : PySem.W.typeIn K (.ref S) = some (.type "type")) (h4 : PySem.W.subIn K (.ref t) (.ref S) = some b) :
    PySem.W.exmOne K (.ref t) (.ref S) = some b := by
  have e1 : (PySem.W.subIn K (.ref S) (.type "BaseException") == some true) = true := by rw [h1] <;> rfl
  have e2 : ((PySem.W.clsIn K S).isSome && PySem.W.typeIn K (.ref S) == some (.type "type")) = true := by
    rw [show (PySem.W.clsIn K S).isSome = true from h2, h3] <;> rfl
  unfold PySem.W.exmOne
  rw [if_pos e1]
  show (if ((PySem.W.clsIn K S).isSome && PySem.W.typeIn K (.ref S) == some (.type "type")) = true then PySem.W.subIn K (.ref t) (.ref S) else none) = some b
  rw [if_pos e2]
  exact h4
theorem kit_of {K : PySem.W.Frag} {t S : Addr} {b : Bool} (hs : PySem.W.subIn K (.ref t) (.ref t) = some true) (h2 : PySem.W.isClsIn K S = true) (h3 : PySem.W.typeIn K (.ref S) = some (.type "type")) (h4 : PySem.W.subIn K (.ref t) (.ref S) = some b) :
    PySem.W.kitOne K (.ref t) (.ref S) = some b := by
  have e2 : ((PySem.W.clsIn K S).isSome && PySem.W.typeIn K (.ref S) == some (.type "type")) = true := by
    rw [show (PySem.W.clsIn K S).isSome = true from h2, h3] <;> rfl
  unfold PySem.W.kitOne
  by_cases e : ((Value.ref t : Value) == .ref S) = true
  · rw [if_pos e]
    have e' : t = S := by simpa using e
    subst e'
    exact hs.symm.trans h4
  · rw [if_neg e]
    show (if ((PySem.W.clsIn K S).isSome && PySem.W.typeIn K (.ref S) == some (.type "type")) = true then PySem.W.subIn K (.ref t) (.ref S) else none) = some b
    rw [if_pos e2]
    exact h4

end FR
set_option Elab.async false
set_option linter.all false
set_option maxRecDepth 100000
/-! operators, `in`, len, bool, str and == of own classes whose instances have a dict -/
namespace FR
open PySem PySem.Spec PyProof.Rows L2 TL
open SlX (cmpback run_at)
section
variable {X : Cx} {pins : List (Addr × Obj)} {σ : L2.St} {H : Hp} {s : Shared} {C g : Addr} {n : Nat} {sp : Sp} {E : XK} {CX : CXT}
theorem ins_inst {a dx : Addr} {fs : List (Str × V)} (I : Inv X pins σ H s) (e : H a = some (.ins C dx fs)) : ∃ od, PySem.W.InstAt s.heap a (PySem.W.instObj C dx) C (some od) := by
  obtain ⟨mA, O, _⟩ := ins_get I.hok e
  obtain ⟨od, J, _⟩ := O.look
  exact ⟨od, J⟩
/-- x op y, both of the class at C, its def for op at g -/
def rBinI (C : Addr) (sp : Sp) (E : XK) : R2 := fun x y H Q => ∃ a dx fs b dy gs, x = .ref a ∧ y = .ref b ∧ H a = some (.ins C dx fs) ∧ H b = some (.ins C dy gs) ∧ sp [x, y] H Q E
theorem op_binI {op : Operator} (hc : PySem.W.selfFirst X.K C = true) (hs : PySem.W.findIn X.K (.ref C) (PySem.dunder op.info.2) = some (some (.ref g))) (hf : PySem.W.isFn X.K (.ref g) = true) (F : FnR X.prog X.w X.K X.mg X.base CX n g sp)
    (hr : Room n X.A) (hx : Passes CX X E) : OpR X (binaryOp op) (rBinI C sp E) := by
  intro pins s σ H x y v u Q I rx ry h
  obtain ⟨a, dx, fs, b, dy, gs, rfl, rfl, ha, hb, q⟩ := h
  cases (show v = Value.ref a from rx)
  cases (show u = Value.ref b from ry)
  obtain ⟨od, J⟩ := ins_inst I ha
  obtain ⟨od', J'⟩ := ins_inst I hb
  obtain ⟨m, hF⟩ := I.fr
  refine PySem.W.binop_K (op := op) hF I.ok.mod.kin J J'.type hc hs hf ?_
  refine wpAny_mono (wpAny_call (run_fnR (us := [.ref a, .ref b]) (vs := [.ref a, .ref b]) F hr hx I (.cons rfl (.cons rfl .nil)) q)) (fun w s' z => ?_) fun _ _ x => x
  obtain ⟨z', H', I', rz, qz⟩ := z
  exact cmpback rz ⟨z', H', I', rz, qz⟩
/-- ~x -/
def rInvI (C : Addr) (sp : Sp) (E : XK) : V → Hp → VK → Prop := fun x H Q => ∃ a dx fs, x = .ref a ∧ H a = some (.ins C dx fs) ∧ sp [x] H Q E
theorem un_invI (hs : PySem.W.findIn X.K (.ref C) "__invert__" = some (some (.ref g))) (hf : PySem.W.isFn X.K (.ref g) = true) (F : FnR X.prog X.w X.K X.mg X.base CX n g sp)
    (hr : Room n X.A) (hx : Passes CX X E) : UnR X (unaryOp .Invert) (rInvI C sp E) := by
  intro pins s σ H x v Q I rx h
  obtain ⟨a, dx, fs, rfl, ha, q⟩ := h
  cases (show v = Value.ref a from rx)
  obtain ⟨od, J⟩ := ins_inst I ha
  obtain ⟨m, hF⟩ := I.fr
  exact PySem.W.ksp_inv hF I.ok.mod.kin J hs hf (wpAny_call (run_fnR (us := [.ref a]) (vs := [.ref a]) F hr hx I (.cons rfl .nil) q))
/-- x op y (a comparison), x of the class at C whose def for it is at g, y an instance of it too -/
def rCmpI (C : Addr) (sp : Sp) (E : XK) : R2 := fun x y H Q => ∃ a dx fs b dy gs, x = .ref a ∧ y = .ref b ∧ H a = some (.ins C dx fs) ∧ H b = some (.ins C dy gs) ∧ sp [x, y] H Q E
theorem op_cmpI {op : CmpOp} (hop : ∀ a b, compareOp op a b = richCompare op a b) (hs : PySem.W.findIn X.K (.ref C) (cmpInfo op).2.1 = some (some (.ref g))) (hf : PySem.W.isFn X.K (.ref g) = true) (F : FnR X.prog X.w X.K X.mg X.base CX n g sp)
    (hr : Room n X.A) (hx : Passes CX X E) : OpR X (compareOp op) (rCmpI C sp E) := by
  intro pins s σ H x y v u Q I rx ry h
  obtain ⟨a, dx, fs, b, dy, gs, rfl, rfl, ha, hb, q⟩ := h
  cases (show v = Value.ref a from rx)
  cases (show u = Value.ref b from ry)
  obtain ⟨od, J⟩ := ins_inst I ha
  obtain ⟨od', J'⟩ := ins_inst I hb
  obtain ⟨m, hF⟩ := I.fr
  rw [hop]
  refine PySem.W.cmp_K (op := op) (tb := .ref C) hr.units0 hF I.ok.mod.kin J J'.type (by unfold PySem.W.notFirst; simp) hs hf ?_
  refine wpAny_mono (wpAny_call (run_fnR (us := [.ref a, .ref b]) (vs := [.ref a, .ref b]) F hr hx I (.cons rfl (.cons rfl .nil)) q)) (fun w s' z => ?_) fun _ _ x => x
  obtain ⟨z', H', I', rz, qz⟩ := z
  exact cmpback rz ⟨z', H', I', rz, qz⟩
/-- v in x, x of the class at C; the answer of its def is a boolean -/
def rInI (C : Addr) (sp : Sp) (E : XK) : R2 := fun v x H Q => ∃ a dx fs, x = .ref a ∧ H a = some (.ins C dx fs) ∧ sp [x, v] H (fun z H' => ∃ b, z = .bl b ∧ Q (.bl b) H') E
theorem op_inI (hs : PySem.W.findIn X.K (.ref C) "__contains__" = some (some (.ref g))) (hf : PySem.W.isFn X.K (.ref g) = true) (F : FnR X.prog X.w X.K X.mg X.base CX n g sp)
    (hr : Room n X.A) (hx : Passes CX X E) : OpR X (compareOp .In) (rInI C sp E) := by
  intro pins s σ H x y v u Q I rx ry h
  obtain ⟨a, dx, fs, rfl, ha, q⟩ := h
  cases (show u = Value.ref a from ry)
  obtain ⟨od, J⟩ := ins_inst I ha
  obtain ⟨m, hF⟩ := I.fr
  refine PySem.W.in_K hF I.ok.mod.kin J hs hf (wpAny_mono (wpAny_call (run_fnR (us := [.ref a, v]) (vs := [.ref a, x]) F hr hx I (.cons rfl (.cons rx .nil)) q)) (fun w s' z => ?_) fun _ _ x => x)
  obtain ⟨z', H', I', rz, b, eb, qz⟩ := z
  subst eb
  cases (show w = Value.bool b from rz)
  exact wpAny_truthy_bool ⟨.bl b, H', I', rfl, qz⟩
/-- the truth of x, of the class at C with an own __bool__ -/
def rTruI (C : Addr) (sp : Sp) (E : XK) : V → Hp → (Bool → Hp → Prop) → Prop := fun x H Q => ∃ a dx fs, x = .ref a ∧ H a = some (.ins C dx fs) ∧ sp [x] H (fun z H' => ∃ b, z = .bl b ∧ Q b H') E
theorem tru_I (hs : PySem.W.findIn X.K (.ref C) "__bool__" = some (some (.ref g))) (hf : PySem.W.isFn X.K (.ref g) = true) (F : FnR X.prog X.w X.K X.mg X.base CX n g sp)
    (hr : Room n X.A) (hx : Passes CX X E) : TruR X (rTruI C sp E) := by
  intro pins s σ H x v Q I rx h
  obtain ⟨a, dx, fs, rfl, ha, q⟩ := h
  cases (show v = Value.ref a from rx)
  obtain ⟨od, J⟩ := ins_inst I ha
  obtain ⟨m, hF⟩ := I.fr
  refine PySem.W.truthy_K hF I.ok.mod.kin J hs hf (wpAny_mono (wpAny_call (run_fnR (us := [.ref a]) (vs := [.ref a]) F hr hx I (.cons rfl .nil) q)) (fun w s' z => ?_) fun _ _ x => x)
  obtain ⟨z', H', I', rz, b, eb, qz⟩ := z
  subst eb
  cases (show w = Value.bool b from rz)
  exact ⟨H', I', qz⟩
/-- len(x), x of the class at C with an own __len__ -/
def rLenI (C : Addr) (sp : Sp) (E : XK) : List V → Hp → VK → Prop := fun xs H Q => ∃ a dx fs, xs = [.ref a] ∧ H a = some (.ins C dx fs) ∧ sp xs H (fun z H' => ∃ i, z = .int i ∧ 0 ≤ i ∧ i < 2 ^ 63 ∧ Q (.int i) H') E
theorem call_lenI (hs : PySem.W.findIn X.K (.ref C) "__len__" = some (some (.ref g))) (hf : PySem.W.isFn X.K (.ref g) = true) (F : FnR X.prog X.w X.K X.mg X.base CX n g sp)
    (hr : Room (n + 1) X.A) (hx : Passes CX X E) : CallR X (.builtin "len") (rLenI C sp E) := by
  intro pins s σ H xs us Q I r h
  obtain ⟨a, dx, fs, rfl, ha, q⟩ := h
  obtain ⟨u, rfl, ru⟩ := r.one
  cases (show u = Value.ref a from ru)
  obtain ⟨od, J⟩ := ins_inst I ha
  obtain ⟨m, hF⟩ := I.fr
  refine PySem.W.len_K hF I.ok.mod.kin J hs hf (wpAny_mono (wpAny_call (run_at (us := [.ref a]) (ws := [.ref a]) F hr.in1 I.env0.in1 hx I (.cons rfl .nil) q)) (fun w s' z => ?_) fun _ _ x => x)
  obtain ⟨z', H', I', rz, i, ei, h0, h1, qz⟩ := z
  subst ei
  obtain ⟨t, e⟩ := (show ∃ t, w = Value.int i t from rz)
  cases e
  exact ⟨⟨h0, h1⟩, .int i, H', I'.tok _, ⟨_, rfl⟩, qz⟩
/-- str(x), x of the class at C with an own __str__ -/
def rStrI (C : Addr) (sp : Sp) (E : XK) : List V → Hp → VK → Prop := fun xs H Q => ∃ a dx fs, xs = [.ref a] ∧ H a = some (.ins C dx fs) ∧ sp xs H (fun z H' => ∃ t, z = .str t ∧ Q (.str t) H') E
theorem call_strI (hs : PySem.W.findIn X.K (.ref C) "__str__" = some (some (.ref g))) (hf : PySem.W.isFn X.K (.ref g) = true) (F : FnR X.prog X.w X.K X.mg X.base CX n g sp)
    (hr : Room (n + 2) X.A) (hx : Passes CX X E) : CallR X (.type "str") (rStrI C sp E) := by
  intro pins s σ H xs us Q I r h
  obtain ⟨a, dx, fs, rfl, ha, q⟩ := h
  obtain ⟨u, rfl, ru⟩ := r.one
  cases (show u = Value.ref a from ru)
  obtain ⟨od, J⟩ := ins_inst I ha
  have hr2 : Room n X.A.in1.in1 := (show Room (n + 1) X.A.in1 from Room.in1 hr).in1
  refine PySem.W.kso_call hr2.units0 I.kIn J hs hf (wpAny_mono (wpAny_call (run_at (us := [.ref a]) (ws := [.ref a]) F hr2 I.env0.in1.in1 hx I (.cons rfl .nil) q)) (fun w s' z => ?_) fun _ _ x => x)
  obtain ⟨z', H', I', rz, t, et, qz⟩ := z
  subst et
  obtain ⟨t', e⟩ := (show ∃ t', w = Value.str t t' from rz)
  cases e
  exact ⟨.str t, H', I', ⟨_, rfl⟩, qz⟩
end
end FR
set_option Elab.async false
set_option linter.all false
set_option maxRecDepth 100000
/-! x op= y of own classes without a def of their own for op= -/
namespace FR
open PySem PySem.W PySem.Calls PyProof.Rows
section
variable {prog : Program} {w : World} {M : Model} {A : Around} {E : Value → Shared → Prop} {s : Shared} {K : Frag} {x C L f : Addr} {h₀ : Heap} {m : Str → Option Value} {ox : Obj} {od : Option Obj} {nm : String} {cd : ClassData}
theorem inplace_no {h : Heap} {add : Bool} (X : K.In h) (hc : clsIn K C = some cd) (hm : cd.mro = [.ref C, .type "object"]) (h1 : findIn K (.ref C) (dunderI nm) = some none) (h2 : findIn K (.type "object") (dunderI nm) = some none) :
    Looks M h (fillsInplaceSlot (.ref C) nm add) false := by
  intro A Q E s k q
  have Lm : Looks M h (mroOf (.ref C)) cd.mro := (looks_clsIn X hc).andThen (f := fun cd => pure cd.mro) .now
  have Lm' := Lm.keeps k
  obtain ⟨hh, g, d, tk, os⟩ := s
  have X' : K.In hh := X.keeps k
  have L1 : Looks M hh (typeLookup (.ref C) (dunderI nm)) none := looks_findIn X' h1
  have L2 : Looks M hh (typeLookup (.type "object") (dunderI nm)) none := looks_findIn X' h2
  unfold fillsInplaceSlot
  refine wpAny_bind (Lm'.at ?_)
  rw [hm, List.anyM_cons]
  refine wpAny_bind ?_
  repeat lk
  exact q
theorem bin1_own {b : Value} {Q : Value → Shared → Prop} (X : K.In s.heap) (I : InstAt s.heap x ox C od) (hb : Looks M s.heap (typeOf b) (.ref C)) (hc : clsIn K C = some cd) (hm : cd.mro = [.ref C, .type "object"])
    (hs : findIn K (.ref C) (PySem.dunder nm) = some (some (.ref f))) (hf : isFn K (.ref f) = true)
    (h : wpAny M A (call (.ref f) [.ref x, b]) (PySem.W.CmpBack Q) E s) : wpAny M A (binaryOp1 nm (.ref x) b) (fun r s' => ∃ v, r = some v ∧ Q v s') E s := by
  have one := ksp_try X I hs hf h
  obtain ⟨hh, g, d, tk, os⟩ := s
  have L1 : Looks M hh (typeOf (.ref x)) (.ref C) := I.type
  have L2 : Looks M hh (typeOf b) (.ref C) := hb
  have L3 : Looks M hh (fillsNumberSlot (.ref C) nm) true := fills_K X hc hm hs
  unfold binaryOp1
  refine wpAny_bind (L1.at (wpAny_bind (L2.at (wpAny_bind (L3.at ?_)))))
  simp only [beq_self_eq_true, if_true]
  ksp_lk
  refine wpAny_mono one (fun r s' hr' => ?_) fun _ _ e => e
  obtain ⟨v, rfl, hq⟩ := hr'
  ksp_lk
  exact ⟨_, rfl, hq⟩
theorem inplace_own {op : Operator} {b : Value} {Q : Value → Shared → Prop} (X : K.In s.heap) (I : InstAt s.heap x ox C od) (hb : Looks M s.heap (typeOf b) (.ref C)) (hc : clsIn K C = some cd) (hm : cd.mro = [.ref C, .type "object"])
    (h1 : findIn K (.ref C) (dunderI op.info.2) = some none) (h2 : findIn K (.type "object") (dunderI op.info.2) = some none)
    (hs : findIn K (.ref C) (PySem.dunder op.info.2) = some (some (.ref f))) (hf : isFn K (.ref f) = true)
    (h : wpAny M A (call (.ref f) [.ref x, b]) (PySem.W.CmpBack Q) E s) : wpAny M A (inplaceOp op (.ref x) b) Q E s := by
  have one := bin1_own X I hb hc hm hs hf h
  obtain ⟨hh, g, d, tk, os⟩ := s
  have L1 : Looks M hh (typeOf (.ref x)) (.ref C) := I.type
  have L2 : Looks M hh (fillsInplaceSlot (.ref C) op.info.2 (op == .Add)) false := inplace_no X hc hm h1 h2
  unfold inplaceOp
  refine wpAny_holding ?_
  refine wpAny_bind (L1.at (wpAny_bind (L2.at ?_)))
  simp only [Bool.false_eq_true, if_false]
  refine wpAny_bind (wpAny_mono one (fun r s' hr' => ?_) fun _ _ e => e)
  obtain ⟨v, rfl, hq⟩ := hr'
  exact wpAny_pure hq
theorem ifBound_slot {name : Str} {id : String} {args : List Value} {Q : Option Value → Shared → Prop} (X : K.In s.heap) (I : InstAt s.heap x ox C od) (hs : findIn K (.ref C) name = some (some (.builtin id)))
    (hb : ∀ self, bindSpecial (.builtin id) self = pure (.builtin id, [self])) (h : wpAny M A (call (.builtin id) (.ref x :: args)) (fun v => Q (some v)) E s) : wpAny M A (callSpecialIfBound? (.ref x) name args) Q E s := by
  simp only [callSpecialIfBound?, bindSpecialIfBound?]
  refine wpAny_holding (wpAny_bind (wpAny_bind (wpAny_bind (I.type.here ((looks_findIn X hs).here ?_)))))
  simp only [hb]
  refine wpAny_bind (wpAny_askSetting (wpAny_ite ?_))
  have fin : wpAny M A (call (.builtin id) ([.ref x] ++ args) >>= fun v => pure (some v)) Q E s := wpAny_bind (wpAny_mono h (fun v s' h' => wpAny_pure h') fun _ _ h' => h')
  split
  · exact wpAny_bind (wpAny_pure (wpAny_pure (by exact fin)))
  · exact wpAny_tryCatch (wpAny_bind (wpAny_pure (wpAny_pure (by exact fin))))
open Builtin in
/-- object's «not equal» where the class has its own «equal», which answers a boolean -/
theorem objNe_own {b : Value} {Q : Value → Shared → Prop} (hu : A.in1.units < cLine) (X : K.In s.heap) (I : InstAt s.heap x ox C od) (hm : mroIn K C (.type "object") = some true) (hs : findIn K (.ref C) "__eq__" = some (some (.ref f))) (hf : isFn K (.ref f) = true)
    (h : wpAny (model prog w) A.in1 (call (.ref f) [.ref x, b]) (fun r s' => ∃ v, r = .bool v ∧ Q (.bool (!v)) s') E s) : wpAny (model prog w) A (call (.builtin "object.__ne__") [.ref x, b]) Q E s := by
  refine wpAny_call (codeAny_call_builtin PySem.F.cmp_object.ne.plain PySem.F.cmpEntry_ne (check_slot (i := "object.__ne__") (owner := "object") (n := "__ne__") (by decide +kernel) (by decide +kernel) (I.type.andThen (looks_mroIn X hm)) (PySem.F.cmpArgs_ne _ _) ?_))
  unfold Builtin.«object.__ne__»
  refine wpAny_bind (m := slotArgs "__ne__" 1 _) (wpAny_pure ?_)
  refine wpAny_bind (m := cRoomFor _ _) (wpAny_cRoomFor hu ?_)
  refine wpAny_bind (m := callSpecialIfBound? (.ref x) (Str.ofString "__eq__") _) (ifBound_K X I hs hf (wpAny_mono h (fun r s' hq => ?_) fun _ _ y => y))
  obtain ⟨v, rfl, q⟩ := hq
  refine wpAny_bind (wpAny_truthy_bool ?_)
  exact wpAny_pure q
/-- x != b where the class of x has an own «equal» alone -/
theorem rc_ne_own {b tb : Value} {Q : Value → Shared → Prop} (hu : A.units < cLine) (hu1 : A.in1.units < cLine) (X : K.In s.heap) (I : InstAt s.heap x ox C od) (hb : Looks (model prog w) s.heap (typeOf b) tb) (hn : notFirst K C tb = true)
    (hm : mroIn K C (.type "object") = some true) (hne : findIn K (.ref C) "__ne__" = some (some (.builtin "object.__ne__"))) (hs : findIn K (.ref C) "__eq__" = some (some (.ref f))) (hf : isFn K (.ref f) = true)
    (h : wpAny (model prog w) A.in1 (call (.ref f) [.ref x, b]) (fun r s' => ∃ v, r = .bool v ∧ Q (.bool (!v)) s') E s) : wpAny (model prog w) A (richCompare .NotEq (.ref x) b) Q E s := by
  have one : wpAny (model prog w) A (tryCompare (.ref x) (cmpInfo .NotEq).2.1 b) (fun r s' => ∃ v, r = some v ∧ Q v s') E s := by
    unfold tryCompare
    refine wpAny_bind (ifBound_slot X I hne PySem.F.cmp_object.ne.bind (objNe_own hu1 X I hm hs hf (wpAny_mono h (fun v s' hv => ?_) fun _ _ e => e)))
    obtain ⟨v, rfl, q⟩ := hv
    exact ⟨v, rfl, wpAny_pure ⟨_, rfl, q⟩⟩
  unfold richCompare
  simp only [oneThing_ref]
  refine wpAny_holding (wpAny_bind (wpAny_cRoomFor hu ?_))
  refine wpAny_bind (I.type.here (wpAny_bind (hb.here ?_)))
  split
  · rename_i q
    have e : subIn K tb (.ref C) = some false := by
      rcases Bool.or_eq_true_iff.mp hn with e | e
      · rw [beq_iff_eq.mp e] at q; simp at q
      · exact beq_iff_eq.mp e
    refine wpAny_bind ((looks_subIn X e).here ?_)
    simp only [Bool.false_eq_true, if_false]
    refine wpAny_bind (wpAny_mono one (fun r s' z => ?_) fun _ _ e => e)
    obtain ⟨v, rfl, hq⟩ := z
    exact wpAny_pure hq
  · refine wpAny_bind (wpAny_pure ?_)
    simp only [Bool.false_eq_true, if_false]
    refine wpAny_bind (wpAny_mono one (fun r s' z => ?_) fun _ _ e => e)
    obtain ⟨v, rfl, hq⟩ := z
    exact wpAny_pure hq
end
section
open L2
open SlX (cmpback run_at)
variable {X : Cx} {C g : Addr} {n : Nat} {sp : Sp} {E : XK} {CX : CXT}
theorem op_ibinI {op : Operator} {cd : ClassData} (hc : clsIn X.K C = some cd) (hm : cd.mro = [.ref C, .type "object"]) (h1 : findIn X.K (.ref C) (dunderI op.info.2) = some none) (h2 : findIn X.K (.type "object") (dunderI op.info.2) = some none)
    (hs : findIn X.K (.ref C) (PySem.dunder op.info.2) = some (some (.ref g))) (hf : isFn X.K (.ref g) = true) (F : FnR X.prog X.w X.K X.mg X.base CX n g sp) (hr : Room n X.A) (hx : Passes CX X E) : InOp X op (rBinI C sp E) := by
  intro pins s σ H x y v u Q I rx ry h
  obtain ⟨a, dx, fs, b, dy, gs, rfl, rfl, ha, hb, q⟩ := h
  cases (show v = Value.ref a from rx)
  cases (show u = Value.ref b from ry)
  obtain ⟨od, J⟩ := ins_inst I ha
  obtain ⟨od', J'⟩ := ins_inst I hb
  refine inplace_own I.kIn J J'.type hc hm h1 h2 hs hf ?_
  refine wpAny_mono (wpAny_call (run_fnR (us := [.ref a, .ref b]) (vs := [.ref a, .ref b]) F hr hx I (.cons rfl (.cons rfl .nil)) q)) (fun w s' z => ?_) fun _ _ x => x
  obtain ⟨z', H', I', rz, qz⟩ := z
  exact cmpback rz ⟨z', H', I', rz, qz⟩
/-- x != y, both of the class at C with an own «equal» alone -/
def rNeI (C : Addr) (sp : Sp) (E : XK) : R2 := fun x y H Q => ∃ a dx fs b dy gs, x = .ref a ∧ y = .ref b ∧ H a = some (.ins C dx fs) ∧ H b = some (.ins C dy gs) ∧ sp [x, y] H (fun z H' => ∃ v, z = .bl v ∧ Q (.bl (!v)) H') E
theorem op_neI (hm : mroIn X.K C (.type "object") = some true) (hne : findIn X.K (.ref C) "__ne__" = some (some (.builtin "object.__ne__"))) (hs : findIn X.K (.ref C) "__eq__" = some (some (.ref g))) (hf : isFn X.K (.ref g) = true)
    (F : FnR X.prog X.w X.K X.mg X.base CX n g sp) (hr : Room (n + 1) X.A) (hx : Passes CX X E) : OpR X (compareOp .NotEq) (rNeI C sp E) := by
  intro pins s σ H x y v u Q I rx ry h
  obtain ⟨a, dx, fs, b, dy, gs, rfl, rfl, ha, hb, q⟩ := h
  cases (show v = Value.ref a from rx)
  cases (show u = Value.ref b from ry)
  obtain ⟨od, J⟩ := ins_inst I ha
  obtain ⟨od', J'⟩ := ins_inst I hb
  refine rc_ne_own (tb := .ref C) hr.units0 hr.in1.units0 I.kIn J J'.type (by unfold notFirst; simp) hm hne hs hf ?_
  refine wpAny_mono (wpAny_call (run_at (us := [.ref a, .ref b]) (ws := [.ref a, .ref b]) F hr.in1 I.env0.in1 hx I (.cons rfl (.cons rfl .nil)) q)) (fun w s' z => ?_) fun _ _ x => x
  obtain ⟨z', H', I', rz, b', eb, qz⟩ := z
  subst eb
  cases (show w = Value.bool b' from rz)
  exact ⟨b', rfl, .bl (!b'), H', I', rfl, qz⟩
end
end FR
set_option Elab.async false
set_option linter.all false
set_option maxRecDepth 100000
/-! the keys of a dict of the module, walked -/
namespace FR
open PySem PySem.Spec PyProof.Rows L2 TL
/-- at d: a dict of the module whose keys are the texts ks -/
structure WDict (K : PySem.W.Frag) (d : Addr) (ks : List Str) : Prop where
  ex : ∃ (o : Obj) (es : Array DictEntry) (ep : Nat), K.lookup d = some o ∧ o.ExactDict ∧ o.data = .dict es ep ∧ es.size = ks.length ∧ ∀ (i : Nat) (k : Str), ks[i]? = some k → ∃ (en : DictEntry) (t : Tok), es[i]? = some en ∧ en.key = Value.str k t
  low : (d == sysModules) = false
/-- its keys, in their order -/
def ItW (ks : List Str) : It := ⟨fun i H => i < ks.length, fun i H x H' => H' = H ∧ ∃ k, ks[i]? = some k ∧ x = .str k, fun i H => ks.length ≤ i⟩
section
variable {P : Program} {w : World} {K : PySem.W.Frag} {tg : Expr} {d : Addr} {o : Obj} {es : Array DictEntry} {ep : Nat} {ks : List Str}
theorem turn_keysW (it : Addr) (hl : K.lookup d = some o) (hod : o.data = .dict es ep) (hsz : es.size = ks.length) (ent : ∀ (i : Nat) (k : Str), ks[i]? = some k → ∃ (en : DictEntry) (t : Tok), es[i]? = some en ∧ en.key = Value.str k t) :
    Turn P w K tg (ItW ks) [it] it (fun i h => h.IsKeyIter it d i ks.length ep) where
  mem := by simp
  obj := fun i h st b hb => by
    have e : b = it := by simpa using hb
    subst e
    obtain ⟨oi, e, c, dd⟩ := st
    exact ⟨oi, e, fun v z => by rw [dd] at z; cases z⟩
  keep := fun i h h' st k => st.at fun oi e => k it (by simp) oi e
  item := by
    intro X hP hw hK hc i pins s σ H E I hf st hi
    subst hP hw hK
    obtain ⟨f0, f1, f2, f3, f4, f5⟩ := hf it (by simp)
    obtain ⟨k, hk⟩ : ∃ k, ks[i]? = some k := ⟨ks[i]'hi, List.getElem?_eq_getElem hi⟩
    obtain ⟨en, t, hen, hkey⟩ := ent i k hk
    refine next_key_item st (I.kIn _ _ hl) hod hsz hen fun h' st' sb => ?_
    have I1 : Inv X pins σ H { s with heap := h' } := I.turned (t' := s.toks) (fun b ob hb e => (sb.2 b hb).trans e) f0 f1 f3 f4 f5
    obtain ⟨oi, e, c, dd⟩ := id st'
    exact ⟨en.key, rfl, go_of (s := { s with heap := h' }) e c dd (by decide) ⟨.str k, H, I1, by rw [hkey]; exact ⟨t, rfl⟩, ⟨rfl, k, hk, rfl⟩, st', fun b hb => (hf b hb).1⟩⟩
  done := by
    intro X hP hw hK hc i pins s σ H E I hf st hi
    subst hP hw hK
    obtain ⟨f0, f1, f2, f3, f4, f5⟩ := hf it (by simp)
    exact next_key_end (I.ok.hd hc) st (I.kIn _ _ hl) hod hsz hi fun h' eb => ⟨rfl, I.turned (t' := s.toks) (fun b ob hb e => eb b ob hb e) f0 f1 f3 f4 f5⟩
  self := fun A i s Q E st h => wpAny_pyIter_keyiter st h
end
/-- a walk over e, which is that dict -/
def iKeysW (td : TE) (d : Addr) (ks : List Str) : TI := fun σ H R => td σ H fun x H1 => x = .ref d ∧ R (ItW ks) H1
theorem pi_keysW {X : Cx} {tg e : Expr} {td : TE} {d : Addr} {ks : List Str} (D : WDict X.K d ks) (he : PE X e td) : PI X tg e (iKeysW td d ks) := by
  refine ⟨fun pins s σ H R I h => ?_⟩
  refine thn (he.run pins s σ H _ I h) fun u s1 ⟨x, H1, I1, rx, ex, q⟩ => ?_
  subst ex
  obtain rfl : u = Value.ref d := rx
  obtain ⟨o, es, ep, hl, hx, hdt, hsz, ent⟩ := D.ex
  refine iter_keys D.low (I1.kIn _ _ hl) hx hdt (pi_one (tk := s1.toks) I1 _ (turn_keysW _ hl hdt hsz ent) ⟨_, Heap.get?_push_size _ rfl, rfl, ?_⟩ q)
  rw [hsz] <;> rfl
theorem walk_keysW {ks : List Str} : Walk (ItW ks) ks.length (fun _ => True) (fun i H x H' => H' = H ∧ ∃ k, ks[i]? = some k ∧ x = .str k) :=
  ⟨fun _ _ hi _ => hi, fun _ _ => Nat.le_refl _, fun _ _ _ _ _ _ y => y⟩
end FR
set_option Elab.async false
set_option linter.all false
set_option maxRecDepth 100000
set_option maxHeartbeats 4000000
/-! set(x) of a text of unlike signs of seven bits; its len -/
namespace FR
open PySem PySem.Spec PyProof.Rows PySem.Froz
section
variable {P : Program} {w : World} {A : Around} {E : Value → Shared → Prop} {s : Shared}
theorem run_ok : ∀ (cs : List Nat) (tk : Tok) (D : SD) (l : List Str), TxOk P w D l → ∃ l', TxOk P w (runD w cs tk D) l' ∧ l'.length = l.length + cs.length
  | [], _, _, l, F => ⟨l, F, rfl⟩
  | c :: r, tk, D, l, F => by
    obtain ⟨l', F', e⟩ := run_ok r (tk + 2) _ (sing c :: l) (add_ok (k := sing c) tk F)
    exact ⟨l', F', by rw [e]; show l.length + 1 + r.length = l.length + (r.length + 1); omega⟩
theorem call_set_txt {x : Str} {u : Tok} {Q : Value → Shared → Prop} (hh : A.handled = none) (ha : x.cps.all (· < 128) = true) (hd : x.cps.toList.Nodup) (hb : x.cps.toList.length < scanBound)
    (h : ∀ (h' : Heap) (tk : Nat) (D : SD) (l : List Str), h'.get? s.heap.objs.size = some (sObj "set" D) → TxOk P w D l → l.length = x.cps.toList.length → (∀ b o, b < s.heap.objs.size → s.heap.get? b = some o → h'.get? b = some o) →
      Q (.ref s.heap.objs.size) { s with heap := h', toks := tk }) :
    wpAny (model P w) A (call (.type "set") [.str x u]) Q E s := by
  obtain ⟨c, tl, hmro⟩ := PySem.F.called_set.mro
  have hmade := PySem.F.called_set.made
  have hsub := PySem.F.called_set.sub
  refine wpAny_call (codeAny_of_tree ?_)
  show wpAny _ _ (callAny (.type "set") _) _ _ _
  refine wpAny_pure ⟨Code.quiet_builtin _ (by decide +kernel), codeAny_builtin PySem.F.entry_type_call ?_⟩
  rw [Around.under_plain (weight_type_call_type "set" [.str x u] []) rfl]
  have h1 := PySem.F.called_set.notType
  have h2 := PySem.F.called_set.canCreate
  have hct := PySem.F.typeCall_set_1 (.str x u)
  repeat (any_goals (first | assumption | wp_step))
  let S0 : Bool → Obj := fun led => { cls := .type "set", dict := none, data := .set #[] 0 (.fresh 0 0 led) }
  refine codeAny_mono (code_set_new_1 (.str x u) (E := E) (Q₁ := fun obj s1 => ∃ led : Bool, obj = .ref s.heap.objs.size ∧ s1 = { s with heap := s.heap.push (S0 led) }) fun led => ⟨led, rfl, rfl⟩) fun r s1 hr => ?_
  match r, hr with
  | .error e, hr => exact hr
  | .ok (.ret obj), hr =>
    obtain ⟨led, rfl, rfl⟩ := hr
    have hS : (s.heap.push (S0 led)).get? s.heap.objs.size = some (S0 led) := Heap.get?_push_size _ rfl
    have hT : Shared.TypeIs { s with heap := s.heap.push (S0 led) } (.ref s.heap.objs.size) "set" := ⟨_, hS, rfl⟩
    have hli := PySem.F.called_set.init.lookup
    have hbi := PySem.F.called_set.init.bind (.ref s.heap.objs.size)
    repeat (any_goals (first | assumption | wp_step))
    refine codeAny_mono (codeAny_call_builtin (R := wants (fun r s2 => r = .none ∧ ∃ (h' : Heap) (tk : Nat) (D : SD) (l : List Str), s2 = { s with heap := h', toks := tk } ∧ h'.get? s.heap.objs.size = some (sObj "set" D) ∧ TxOk P w D l ∧ l.length = x.cps.toList.length ∧
      (∀ b o, b < s.heap.objs.size → s.heap.get? b = some o → h'.get? b = some o)) E) PySem.F.called_set.init.plain PySem.F.entry_set_init (check_set_init_1 hT ?_)) fun r2 s2 hr2 => ?_
    · have hs1 := PySem.F.sub_str_set
      have hs2 := PySem.F.sub_str_frozenset
      have hne : (Value.type "str" == Value.type "dict") = false := by decide
      unfold Builtin.«set.__init__» noKeywords Builtin.Frozenset.updateFrom
      generalize hPI : pyIter = PI
      wp_walk
      subst hPI
      refine wpAny_pyIter_ascii ha ?_
      refine wpAny_bind (wpAny_runValue ?_)
      have hsz : (s.heap.push (S0 led)).objs.size = s.heap.objs.size + 1 := Heap.size_push ..
      have hne2 : s.heap.objs.size ≠ (s.heap.push (S0 led)).objs.size := by omega
      have F0 : TxOk P w (#[], 0, .fresh 0 0 led) [] := TxOk.nil (by rfl)
      obtain ⟨l, Fl, el⟩ := run_ok x.cps.toList s.toks (#[], 0, .fresh 0 0 led) [] F0
      refine code_update (T := "set") (x := x) (u := u) (P := P) (w := w) hne2 (by simp [hh]) x.cps.toList 0 (#[], 0, .fresh 0 0 led) [] _ rfl (Heap.get?_push_of_some _ hS) (Heap.get?_push_size _ rfl) F0 (by simp) hd (by simpa using hb) ?_
      show wpAny _ _ (pure ()) _ _ _
      refine wpAny_pure ?_
      show wpAny _ _ (ret Value.none) _ _ _
      have hS2 : ∀ o : Obj, ((s.heap.push (S0 led)).push o).get? s.heap.objs.size = some (S0 led) := fun o => Heap.get?_push_of_some _ hS
      refine wpAny_pure ⟨rfl, _, _, _, l, rfl, ?_, Fl, by rw [el]; exact Nat.zero_add _, fun b o hb2 e => ?_⟩
      · exact Heap.get?_push_of_some _ (Heap.get?_push_of_some _ (Heap.get?_update_of_ne _ (Ne.symm hne2) (get_upd _ (hS2 _) rfl)))
      · have n1 : b ≠ s.heap.objs.size := Nat.ne_of_lt hb2
        have n2 : b ≠ (s.heap.push (S0 led)).objs.size := by omega
        exact Heap.get?_push_of_some _ (Heap.get?_push_of_some _ (Heap.get?_update_of_ne _ (Ne.symm n2) (Heap.get?_update_of_ne _ (Ne.symm n1) (Heap.get?_push_of_some _ (Heap.get?_push_of_some _ e)))))
    · match r2, hr2 with
      | .error e, hr2 => exact hr2
      | .ok (.ret r), hr2 =>
        obtain ⟨rfl, h', tk, D, l, rfl, g1, g2, g3, g4⟩ := hr2
        repeat (any_goals (first | assumption | wp_step))
        exact h _ _ _ _ g1 g2 g3 g4
      | .ok .next, hr2 => exact hr2.elim
      | .ok .brk, hr2 => exact hr2.elim
      | .ok .cont, hr2 => exact hr2.elim
  | .ok .next, hr => exact hr.elim
  | .ok .brk, hr => exact hr.elim
  | .ok .cont, hr => exact hr.elim
end
section
open L2
def tLenSetT (ta : TE) : TE := fun σ H Q => ta σ H fun x H1 => ∃ t : Str, x = .str t ∧ t.cps.all (· < 128) = true ∧ t.cps.toList.Nodup ∧ t.cps.toList.length ≤ 4000 ∧ Q (.int (t.length : Nat)) H1
/-- len(set(e)), e a text of unlike signs -/
theorem pe_lenSetT {X : Cx} {a : Expr} {ta : TE} {p p2 q pos : Pos} (hg : Gl X "len") (hm : X.mg "len" = none) (hg2 : Gl X "set") (hm2 : X.mg "set" = none) (ha : PE X a ta) (hc : X.calm = true := by rfl)
    (na : starEach [a] X.env = (false, eval a X.env) :: starEach [] X.env := by rfl) : PE X (.Call (.Name "len" p) [.Call (.Name "set" p2) [a] [] q] [] pos) (tLenSetT ta) := by
  refine ⟨fun pins s σ H Q I h => ?_⟩
  refine Call_ (ld_blt I hg hm boot_len ?_)
  refine PyProof.Rows.callWith_builtin1 (PyProof.Rows.args_cons ?_ rfl) rfl rfl
  refine Call_ (ld_blt I hg2 hm2 (show bootBuiltins ("set" : Str) = some (.type "set") by decide +kernel) ?_)
  refine PyProof.Rows.callWith_type1 (PyProof.Rows.args_cons (thn (ha.run pins s σ H _ I h) fun v s1 ⟨x, H1, I1, r1, q1⟩ => PyProof.Rows.args_nil ?_) na) na rfl
  obtain ⟨t, rfl, h1, h2, h3, q1⟩ := q1
  obtain ⟨tk0, rfl⟩ := r1
  refine call_set_txt (I1.ok.hd hc) h1 h2 (by unfold scanBound; omega) fun h' tk D l g1 F el hk => ?_
  refine PyProof.Rows.args_nil ?_
  have I2 : Inv X pins σ H1 { s1 with heap := h', toks := tk } := I1.kept fun b o e => hk b o (Heap.lt_size e) e
  have hn : D.1.size = t.length := by rw [F.sz, el]; rfl
  exact call_len_set (es := D.1) (ep := D.2.1) (t := D.2.2) g1 ⟨rfl, rfl, rfl⟩ rfl F.fit (by rw [hn]; show ((t.cps.size : Nat) : Int) < _; rw [← Array.length_toList]; omega) ⟨.int t.length, H1, I2.tok _, ⟨_, by rw [hn]⟩, q1⟩
end
end FR
set_option Elab.async false
set_option linter.all false
set_option maxRecDepth 100000
/-! whole numbers as tests; dicts of the module inside a comprehension -/
namespace FR
open PySem PySem.Spec PyProof.Rows L2
def tTruI (ta : TE) : TT := fun σ H Q => ta σ H fun x H' => ∃ i, x = .int i ∧ Q (i != 0) H'
theorem pt_truthI {X : Cx} {a : Expr} {ta : TE} (ha : PE X a ta) (he : ∀ whole, isTrue a X.env whole = (do let v ← whole; standAt a.pos; holding [v] (truthy v))) : PT X a (tTruI ta) := by
  refine ⟨fun pins s σ H Q I h => ?_⟩
  exact isTrue_plain (thn (ha.run pins s σ H _ I h) fun v s1 ⟨x, H1, I1, r1, i, ex, q1⟩ => tru_ok pins s1 σ H1 x v Q I1 r1 ⟨i != 0, by subst ex; rfl, q1⟩) (he _)
theorem ix_kdictK {X : Cx} {K : PySem.W.Frag} {w : World} (hk : X.K = K) (hw : X.w = w) : IxR X (rIxD K w) := by
  subst hk hw
  exact ix_kdict
def rInW (K : PySem.W.Frag) (d : Addr) : R2 := fun x y H Q => ∃ (z : Str) (r : Option Value), x = .str z ∧ y = .ref d ∧ PySem.W.nsIn K d z = some r ∧ Q (.bl r.isSome) H
theorem op_inW {X : Cx} {K : PySem.W.Frag} {w : World} {d : Addr} (hk : X.K = K) (hw : X.w = w) (D : ∃ es n, KDict K w d es n) : OpR X (compareOp .In) (rInW K d) := by
  subst hk hw
  obtain ⟨es, n, D⟩ := D
  exact op_in_kd D
end FR
set_option Elab.async false
set_option linter.all false
set_option maxRecDepth 100000
/-! a comprehension over the keys of a dict of the module -/
namespace FR
open PySem PySem.Spec PyProof.Rows L2
theorem lc_kw {g : TG} {tt : TT} {te : TE} {vs : List Nat} {σ : L2.St} {H1 : Hp} {D : Addr} {Qd : Hp → Prop} {ks : List Str} (Pv : List Str → Hp → Prop) (h0 : Pv [] (upd H1 D (.lst [])))
    (hs : ∀ pre k post H, ks = pre ++ k :: post → Pv pre H → g (.str k) (wipe σ vs) H fun σ2 H2 => wipe σ2 vs = wipe σ vs ∧ tt σ2 H2 fun b H3 =>
      if b = true then te σ2 H3 fun y H4 => ∃ acc, H4 D = some (.lst acc) ∧ acc.length < sizeLine ∧ Pv (pre ++ [k]) (upd H4 D (.lst (acc ++ [y]))) else Pv (pre ++ [k]) H3) (hd : ∀ H, Pv ks H → Qd H) :
    ∃ W : Nat → Nat → Hp → Prop, (∃ m, W 0 m (upd H1 D (.lst []))) ∧ ∀ i m H, W i m H →
      ((ItW ks).stop i H ∧ Qd H) ∨ ((ItW ks).go i H ∧ ∃ Nx : Hp → Prop, (∀ H', Nx H' → ∃ m', m' < m ∧ W (i + 1) m' H') ∧ ∀ x H', (ItW ks).yld i H x H' → g x (wipe σ vs) H' fun σ2 H2 => wipe σ2 vs = wipe σ vs ∧ tt σ2 H2 fun b H3 =>
        if b = true then te σ2 H3 fun y H4 => ∃ acc, H4 D = some (.lst acc) ∧ acc.length < sizeLine ∧ Nx (upd H4 D (.lst (acc ++ [y]))) else Nx H3) := by
  refine lc_it walk_keysW (fun i H => Pv (ks.take i) H) (by simpa using h0) (fun _ _ _ _ => True.intro) ?_ (fun H p => hd H (by rw [List.take_length] at p; exact p))
  rintro i x H H' hi p ⟨rfl, k, hk, rfl⟩
  have e : ks = ks.take i ++ k :: ks.drop (i + 1) := by
    have h2 : ks[i] = k := by rw [List.getElem?_eq_getElem hi] at hk; exact Option.some.inj hk
    rw [← h2, ← List.drop_eq_getElem_cons hi, List.take_append_drop]
  have e2 : ks.take (i + 1) = ks.take i ++ [k] := by rw [List.take_add_one, hk]; rfl
  rw [e2]
  exact hs _ k _ _ e p
end FR
set_option Elab.async false
set_option linter.all false
set_option maxRecDepth 100000
/-! list(x) of a text -/
namespace FR
open PySem PySem.Spec PyProof.Rows L2 TL
def rListT : List V → Hp → VK → Prop := fun xs H Q => ∃ x : Str, xs = [.str x] ∧ x.cps.size ≤ sizeLine ∧ NewS (.lst ((tl x).map fun c => .str ⟨#[c]⟩)) Q H
theorem call_listT {X : Cx} (hc : X.calm = true) : CallR X (.type "list") rListT := by
  intro pins s σ H xs us Q I r h
  obtain ⟨x, rfl, hz, q⟩ := h
  obtain ⟨u, rfl, t, rfl⟩ : ∃ u, us = [u] ∧ ∃ t, u = Value.str x t := by
    cases r with
    | cons a b => cases b; exact ⟨_, rfl, a⟩
  refine call_list_str (hn := hz) (I.ok.hd hc) x t fun h' tk acc' c' hkeep hS hacc => ?_
  refine ⟨.ref s.heap.objs.size, upd H s.heap.objs.size (.lst ((tl x).map fun c => .str ⟨#[c]⟩)), I.laid hkeep (Nat.le_refl _) (show ObjOk X.prog X.w _ _ _ (.lst ((tl x).map fun c => .str ⟨#[c]⟩)) from ⟨?_, acc'.toList, c', ?_, ?_⟩), rfl,
    q.to _ _ (I.hok.fresh (Nat.le_refl _)) I.big (keep_new (I.hok.fresh (Nat.le_refl _))) upd_same⟩
  · rw [List.length_map]
    simpa using hz
  · have el : acc'.toList.length = acc'.size := by simp
    refine vals_of_at (by rw [List.length_map, el, hacc.1]; simp) fun j y v h1 h2 => ?_
    obtain ⟨c, tk2, hj, rfl⟩ := hacc.2 j v (by rw [← Array.getElem?_toList]; exact h2)
    rw [List.getElem?_map, show (tl x)[j]? = some c by simpa using hj] at h1
    cases h1
    exact ⟨tk2, rfl⟩
  · rw [Array.toArray_toList]; exact hS
end FR
set_option Elab.async false
set_option linter.all false
set_option maxRecDepth 100000
/-! x = e.replace(old, new) in a def: it wants that something has been made before, as it has where a def runs -/
namespace FR
open PySem PySem.Spec PyProof.Rows L2 TL
theorem okT {P : Program} {w : World} {K : PySem.W.Frag} {mg : Str → Option Value} {base : Heap} {x qual : Str} {st : Stmt} {f : Addr} {fd : FuncData} {N ps : List Str} {k : Nat} {sp : Sp}
    (F : Fun K x qual st f fd) (S : FnScope N ps (defScope st)) (nc : ∀ y ∈ (defScope st).names, y.2 ≠ NameKind.cell) (hp : 1 ≤ ps.length) (len : ∀ vs H Q E, sp vs H Q E → vs.length = ps.length)
    (body : ∀ (cdv : Value) (A : Around) (outer : List Env) (s : Shared) (H : Hp) (vs : List V) (Q : VK) (E : XK), Room k (A.deeper (envOfC qual (defScope st) s.heap.objs.size f cdv)) → sp vs H Q E →
      ∃ t, PSsT (cxOf CX0 P w K mg base N qual (defScope st) f cdv A outer s H E) (defBody st) t ∧ t { nx := fun _ H' => Q .non H', rt := Q } (start N vs) H) :
    FnOk P w K mg base CX0 (k + 1) f fd ps sp := by
  obtain ⟨oc, od, kV, doc, pm, an, cdv, ct, osl, rfl, hl, hc⟩ := F.ex
  exact fn_ofT hl hc S nc hp len fun A outer s H vs Q E hr h => body cdv A outer s H vs Q E hr h
theorem pst_asg {X : Cx} {pos : Pos} {tg e : Expr} {te : TE} {g : TG} (he : PET X e te) (hg : PG X tg g) (h1 : swapsWithSole [tg] e pos.line X.env = pure false := by rfl)
    (h2 : swappedStores [tg] e X.env = pure none := by rfl) (h3 : (assignEach [tg] X.env).map (fun x => x.2) = [assign tg X.env] := by rfl) : PST X (.Assign [tg] e pos) (tAsg te g) := by
  intro pins s σ H D ht I h
  refine wpAny_Assign_stores (wpAny_mono (he pins s σ H _ ht I h) (fun v s1 z => ?_) fun _ _ z => z) h1 h2
  obtain ⟨x, H1, I1, r1, q⟩ := z
  rw [h3]
  unfold assignAll
  exact wpAny_mono (hg.run pins s1 σ H1 x v _ I1 r1 q) (fun u s2 z => z) fun _ _ z => z
/-- without its slashes -/
def noSl (s : Str) : Str := Txt.replace s "/" ""
theorem repl_filter (c : Nat) : ∀ l : List Nat, PySem.StrLaws.replL [c] [] l = l.filter (fun d => d != c)
  | [] => PySem.StrLaws.replL_nil
  | d :: r => by
    by_cases e : d = c
    · subst e
      rw [PySem.StrLaws.replL_hit (by simp) (by simp)]
      simpa using repl_filter d r
    · rw [PySem.StrLaws.replL_miss (by simp [e]), repl_filter c r]
      simp [e]
theorem tl_noSl (s : Str) : tl (noSl s) = (tl s).filter (fun d => d != 47) := by
  refine (PySem.StrLaws.replace_list (x := s) (y := "/") (z := "") (by decide +kernel)).trans ?_
  exact repl_filter 47 _
theorem noSl_asc {s : Str} (a : Asc s) : Asc (noSl s) := fun c hc => a c (by rw [tl_noSl] at hc; exact (List.mem_filter.mp hc).1)
end FR
set_option Elab.async false
set_option linter.all false
set_option maxRecDepth 100000
/-! the parts of a path, and what is left of it without its slashes -/
namespace FR
open PySem PySem.Spec PyProof.Rows L2 TL
theorem spl_all (c : Nat) : ∀ (l acc : List Nat), (spl [c] 0 acc l).flatten = acc ++ l.filter (fun d => d != c)
  | [], acc => by rw [spl_nil]; simp
  | x :: r, acc => by
    by_cases e : pre [c] (x :: r) = true
    · rw [spl_hit e]
      have : x = c := by rw [pre_one] at e; simpa using e
      subst this
      have := spl_all x r []
      simp only [List.flatten_cons]
      show acc ++ (spl [x] 0 [] r).flatten = _
      rw [this]
      simp
    · rw [spl_miss (by simpa using e), spl_all c r (acc ++ [x])]
      have : x ≠ c := by rw [pre_one] at e; simpa using e
      simp [this]
theorem path_parts {s : Str} (h : Txt.startswith s ⟨#[47]⟩ = true) : (((Txt.split s ⟨#[47]⟩).drop 1).map tl).flatten = tl (noSl s) ∧ (Txt.split s ⟨#[47]⟩).drop 1 ≠ [] := by
  rw [starts_one] at h
  have e1 : ((Txt.split s ⟨#[47]⟩).drop 1).map tl = (spl [47] 0 [] (tl s)).drop 1 := by rw [List.map_drop, split_tl _ (by decide)]
  cases e : tl s with
  | nil => rw [e] at h; cases h
  | cons c r =>
    rw [e] at h
    have : c = 47 := by simpa using h
    subst this
    have e2 : (spl [47] 0 [] (47 :: r)).drop 1 = spl [47] 0 [] r := by
      rw [spl_hit (by rw [pre_one]; rfl)]
      rfl
    rw [e, e2] at e1
    constructor
    · rw [e1, spl_all, tl_noSl, e]
      simp
    · intro h0
      rw [h0] at e1
      have : ∀ (l acc : List Nat), spl [47] 0 acc l ≠ [] := by
        intro l
        induction l with
        | nil => intro acc; rw [spl_nil]; simp
        | cons x r ih =>
          intro acc
          by_cases e : pre [47] (x :: r) = true
          · rw [spl_hit e]; simp
          · rw [spl_miss (by simpa using e)]; exact ih _
      exact this r [] e1.symm
theorem path_split {s : Str} (h : Txt.startswith s ⟨#[47]⟩ = true) (p : Nat → Bool) :
    ((Txt.split s ⟨#[47]⟩).drop 1).all (fun u => decide (u ≠ Str.ofString "" ∧ u.length ≤ 8) && (tl u).all p) =
      ((decide (noSl s ≠ Str.ofString "") && (tl (noSl s)).all p) && ((Txt.split s ⟨#[47]⟩).drop 1).all (fun u => decide (1 ≤ u.length ∧ u.length ≤ 8))) := by
  obtain ⟨hf, hn⟩ := path_parts h
  have ne : ∀ u : Str, u ≠ Str.ofString "" ↔ 1 ≤ u.length := fun u => by
    constructor
    · intro e
      rcases Nat.eq_zero_or_pos u.length with z | z
      · refine absurd (ext_tl ?_) e
        rw [len_tl] at z
        rw [List.length_eq_zero_iff.mp z]
        decide +kernel
      · exact z
    · intro e h
      rw [h] at e
      exact absurd e (by decide +kernel)
  rw [Bool.eq_iff_iff, ← hf, List.all_flatten, List.all_map]
  simp only [Bool.and_eq_true, List.all_eq_true, decide_eq_true_eq, Function.comp]
  generalize (Txt.split s ⟨#[47]⟩).drop 1 = ps at hf hn
  constructor
  · intro a
    refine ⟨⟨?_, fun u hu => (a u hu).2⟩, fun u hu => ⟨(ne u).mp (a u hu).1.1, (a u hu).1.2⟩⟩
    intro e
    cases ps with
    | nil => exact hn rfl
    | cons u r =>
      have hu := (ne u).mp (a u (by simp)).1.1
      rw [e] at hf
      have := congrArg List.length hf
      rw [List.map_cons, List.flatten_cons, List.length_append, ← len_tl] at this
      have z : (tl (Str.ofString "")).length = 0 := by decide +kernel
      omega
  · rintro ⟨⟨_, a⟩, b⟩ u hu
    exact ⟨⟨(ne u).mpr (b u hu).1, (b u hu).2⟩, a u hu⟩
end FR
set_option Elab.async false
set_option linter.all false
set_option maxRecDepth 100000
/-! the last slash of a path; a path without its slashes -/
namespace FR
open PySem PySem.Spec PyProof.Rows L2 TL
theorem rfind_one {x : Str} {c i : Nat} (h : (tl x)[i]? = some c) (h2 : ∀ k, i < k → (tl x)[k]? ≠ some c) : Txt.rfind x ⟨#[c]⟩ = (i : Int) := by
  unfold Txt.rfind
  rcases PySem.StrLaws.last_spec x ⟨#[c]⟩ with ⟨_, hn⟩ | ⟨j, e, hj, hm⟩
  · exact absurd ((PySem.StrLaws.subAt_one x c i).mpr h) (hn i)
  · rw [e]
    have hj' := (PySem.StrLaws.subAt_one x c j).mp hj
    rcases Nat.lt_trichotomy i j with l | l | l
    · exact absurd hj' (h2 j l)
    · rw [l]
    · exact absurd ((PySem.StrLaws.subAt_one x c i).mpr h) (hm i l)
theorem flat_app (ms : List Str) (n : Str) : flat (ms ++ [n]) = flat ms ++ 47 :: tl n := by simp [flat]
theorem rfind_path {ms : List Str} {n : Str} (hn : Nm n) : Txt.rfind (pathOf (ms ++ [n])) (Str.ofString "/") = ((flat ms).length : Int) ∧ cutS (pathOf (ms ++ [n])) none (some ((flat ms).length : Int)) = cat ms := by
  have e : tl (pathOf (ms ++ [n])) = flat ms ++ 47 :: tl n := by rw [pathOf_ne (by simp), tl_cat, flat_app]
  constructor
  · rw [slash]
    refine rfind_one (by rw [e, List.getElem?_append_right (Nat.le_refl _), Nat.sub_self]; rfl) fun k hk h => ?_
    rw [e, List.getElem?_append_right (by omega)] at h
    obtain ⟨j, hj⟩ : ∃ j, k - (flat ms).length = j + 1 := ⟨k - (flat ms).length - 1, by omega⟩
    rw [hj, List.getElem?_cons_succ] at h
    have := hn.lt (List.mem_of_getElem? h)
    omega
  · refine ext_tl ?_
    rw [tl_cutTo, e, tl_cat, List.take_left]
theorem low_of {s : Str} (h0 : tl s ≠ []) (h : ∀ c ∈ tl s, lc c = true) : Txt.isascii s = true ∧ Txt.isalpha s = true ∧ Txt.islower s = true := by
  have ha : Asc s := fun c hc => by have := of_decide_eq_true (h c hc); omega
  refine ⟨isascii_asc ha, ?_, ?_⟩
  · show (decide (s.length > 0) && s.cps.all Unicode.isAlpha) = true
    rw [all_tl, Bool.and_eq_true, decide_eq_true_eq, List.all_eq_true, len_tl]
    exact ⟨List.length_pos_iff.mpr h0, fun c hc => (lc_alpha ⟨c, ha c hc⟩ (h c hc)).1⟩
  · show (s.cps.any Unicode.isLower && !s.cps.any fun c => Unicode.isUpper c || Unicode.isTitle c) = true
    rw [any_tl, any_tl, Bool.and_eq_true, List.any_eq_true, Bool.not_eq_true', List.any_eq_false]
    refine ⟨?_, fun c hc => by have := (lc_alpha ⟨c, ha c hc⟩ (h c hc)).2.2; simpa using this⟩
    obtain ⟨c, hc⟩ := List.exists_mem_of_ne_nil _ h0
    exact ⟨c, hc, (lc_alpha ⟨c, ha c hc⟩ (h c hc)).2.1⟩
theorem path_noSl {ns : List Str} (h : Nms ns) (e : ns ≠ []) : Txt.isascii (noSl (pathOf ns)) = true ∧ Txt.isalpha (noSl (pathOf ns)) = true ∧ Txt.islower (noSl (pathOf ns)) = true := by
  have hm : ∀ c, c ∈ tl (noSl (pathOf ns)) ↔ ∃ s ∈ ns, c ∈ tl s := fun c => by
    rw [tl_noSl, pathOf_ne e, tl_cat, List.mem_filter]
    unfold flat
    rw [List.mem_flatten]
    constructor
    · rintro ⟨⟨l, hl, hc⟩, hne⟩
      obtain ⟨s, hs, rfl⟩ := List.mem_map.mp hl
      rcases List.mem_cons.mp hc with rfl | hc
      · simp at hne
      · exact ⟨s, hs, hc⟩
    · rintro ⟨s, hs, hc⟩
      refine ⟨⟨_, List.mem_map.mpr ⟨s, hs, rfl⟩, List.mem_cons_of_mem _ hc⟩, ?_⟩
      have := (h s hs).lt hc
      simp
      omega
  refine low_of (fun z => ?_) fun c hc => ?_
  · cases ns with
    | nil => exact e rfl
    | cons n r =>
      have h0 := (h n List.mem_cons_self).l0
      rw [len_tl] at h0
      obtain ⟨c, hc⟩ := List.exists_mem_of_length_pos h0
      have := (hm c).mpr ⟨n, List.mem_cons_self, hc⟩
      rw [z] at this
      cases this
  · obtain ⟨s, hs, hc⟩ := (hm c).mp hc
    exact (h s hs).lo c hc
end FR
set_option Elab.async false
set_option linter.all false
set_option maxRecDepth 100000
set_option maxHeartbeats 4000000
/-! bool(x), x == y and x != y of an own class, whatever stands on the right -/
namespace FR
open PySem PySem.Spec PyProof.Rows
theorem call_bool_tru {P : Program} {w : World} {A : Around} {E : Value → Shared → Prop} {s : Shared} {x : Value} {Q : Value → Shared → Prop} (h : wpAny (model P w) A.in1.in1 (truthy x) (fun b s' => Q (.bool b) s') E s) :
    wpAny (model P w) A (call (.type "bool") [x]) Q E s := by
  refine callType_newIn (S := fun A R s => wpAny (model P w) A.in1 (truthy x) (fun b s' => R (.ok (.ret (.bool b))) s') (fun e s' => R (.error e) s') s) PySem.F.called_bool (by decide +kernel) (PySem.F.typeCall_bool_1 x) (PySem.F.newCall_bool_1 x) (fun o => PySem.F.args_object_init_2 o x) PySem.F.entry_bool_new ?_ ?_
  · intro A R s h
    unfold Builtin.«bool.__new__»
    have hsm : someArgs "bool" 0 1 { pos := [x] } = pure [x] := by rfl
    have hty : isType (Value.type "bool") = pure true := by rfl
    have hsub := PySem.F.called_bool.sub
    show wpAny _ _ (do let __do_lift ← isType (Value.type "bool"); _) _ _ _
    rw [hty, pure_bind]
    simp only [hsub, hsm, pure_bind, Bool.not_true, Bool.false_eq_true, if_false]
    refine wpAny_bind (wpAny_mono h (fun b s1 hb => ?_) fun _ _ z => z)
    exact wpAny_pure hb
  · exact wpAny_mono h (fun b s' q => ⟨PySem.typeIs_bool _ _, q⟩) fun _ _ z => z
open L2
open SlX (cmpback run_at)
section
variable {X : Cx} {C g : Addr} {n : Nat} {sp : Sp} {E : XK} {CX : CXT}
/-- bool(x), x of the class at C with an own __bool__ -/
def rBoolI (C : Addr) (sp : Sp) (E : XK) : List V → Hp → VK → Prop := fun xs H Q => ∃ a dx fs, xs = [.ref a] ∧ H a = some (.ins C dx fs) ∧ sp xs H (fun z H' => ∃ b, z = .bl b ∧ Q (.bl b) H') E
theorem call_boolI (hs : PySem.W.findIn X.K (.ref C) "__bool__" = some (some (.ref g))) (hf : PySem.W.isFn X.K (.ref g) = true) (F : FnR X.prog X.w X.K X.mg X.base CX n g sp)
    (hr : Room (n + 2) X.A) (hx : Passes CX X E) : CallR X (.type "bool") (rBoolI C sp E) := by
  intro pins s σ H xs us Q I r h
  obtain ⟨a, dx, fs, rfl, ha, q⟩ := h
  obtain ⟨u, rfl, ru⟩ := r.one
  cases (show u = Value.ref a from ru)
  obtain ⟨od, J⟩ := ins_inst I ha
  obtain ⟨m, hF⟩ := I.fr
  have hr2 : Room n X.A.in1.in1 := (show Room (n + 1) X.A.in1 from Room.in1 hr).in1
  refine call_bool_tru (PySem.W.truthy_K hF I.ok.mod.kin J hs hf (wpAny_mono (wpAny_call (run_at (us := [.ref a]) (ws := [.ref a]) F hr2 I.env0.in1.in1 hx I (.cons rfl .nil) q)) (fun w s' z => ?_) fun _ _ x => x))
  obtain ⟨z', H', I', rz, b, eb, qz⟩ := z
  subst eb
  cases (show w = Value.bool b from rz)
  exact ⟨.bl b, H', I', rfl, qz⟩
/-- not x, as a value -/
def rNotR (r : V → Hp → (Bool → Hp → Prop) → Prop) : V → Hp → VK → Prop := fun x H Q => r x H fun b H' => Q (.bl (!b)) H'
theorem un_not {r : V → Hp → (Bool → Hp → Prop) → Prop} (h : TruR X r) : UnR X (unaryOp .Not) (rNotR r) := by
  intro pins s σ H x v Q I rx q
  unfold unaryOp
  refine wpAny_holding ?_
  show wpAny _ _ (do let b ← truthy v; pure (Value.bool !b)) _ _ _
  refine wpAny_bind (wpAny_mono (h pins s σ H x v _ I rx q) (fun b s' z => ?_) fun _ _ z => z)
  obtain ⟨H', I', q'⟩ := z
  exact wpAny_pure ⟨.bl (!b), H', I', rfl, q'⟩
/-- what stands on the right of a comparison: one of the class, a text, a whole number -/
inductive Right (K : PySem.W.Frag) (H : Hp) (C : Addr) : V → Prop
  | own {b dy : Addr} {gs : List (Str × V)} : H b = some (.ins C dy gs) → Right K H C (.ref b)
  | str (t : Str) : PySem.W.notFirst K C (.type "str") = true → Right K H C (.str t)
  | int (i : Int) : PySem.W.notFirst K C (.type "int") = true → Right K H C (.int i)
theorem right_looks {pins : List (Addr × Obj)} {σ : L2.St} {H : Hp} {s : Shared} {y : V} {u : Value} (I : Inv X pins σ H s) (r : RelV y u) (h : Right X.K H C y) : ∃ tb, PySem.W.Looks (model X.prog X.w) s.heap (typeOf u) tb ∧ PySem.W.notFirst X.K C tb = true := by
  cases h with
  | own e =>
    cases (show u = _ from r)
    obtain ⟨od, J⟩ := ins_inst I e
    exact ⟨_, J.type, by unfold PySem.W.notFirst; simp⟩
  | str t e =>
    obtain ⟨tk, rfl⟩ := (show ∃ tk, u = Value.str t tk from r)
    exact ⟨_, fun A Q E s' _ q => by show wpAny _ _ (pure (Value.type "str")) _ _ _; exact wpAny_pure q, e⟩
  | int i e =>
    obtain ⟨tk, rfl⟩ := (show ∃ tk, u = Value.int i tk from r)
    exact ⟨_, fun A Q E s' _ q => by show wpAny _ _ (pure (Value.type "int")) _ _ _; exact wpAny_pure q, e⟩
def rCmpA (K : PySem.W.Frag) (C : Addr) (sp : Sp) (E : XK) : R2 := fun x y H Q => ∃ a dx fs, x = .ref a ∧ H a = some (.ins C dx fs) ∧ Right K H C y ∧ sp [x, y] H Q E
theorem op_cmpA {op : CmpOp} (hop : ∀ a b, compareOp op a b = richCompare op a b) (hs : PySem.W.findIn X.K (.ref C) (cmpInfo op).2.1 = some (some (.ref g))) (hf : PySem.W.isFn X.K (.ref g) = true) (F : FnR X.prog X.w X.K X.mg X.base CX n g sp)
    (hr : Room n X.A) (hx : Passes CX X E) : OpR X (compareOp op) (rCmpA X.K C sp E) := by
  intro pins s σ H x y v u Q I rx ry h
  obtain ⟨a, dx, fs, rfl, ha, hy, q⟩ := h
  cases (show v = Value.ref a from rx)
  obtain ⟨od, J⟩ := ins_inst I ha
  obtain ⟨tb, hl, hn⟩ := right_looks I ry hy
  obtain ⟨m, hF⟩ := I.fr
  rw [hop]
  refine PySem.W.cmp_K (op := op) (tb := tb) hr.units0 hF I.ok.mod.kin J hl hn hs hf ?_
  refine wpAny_mono (wpAny_call (run_fnR (us := [.ref a, u]) (vs := [.ref a, y]) F hr hx I (.cons rfl (.cons ry .nil)) q)) (fun w s' z => ?_) fun _ _ x => x
  obtain ⟨z', H', I', rz, qz⟩ := z
  exact cmpback rz ⟨z', H', I', rz, qz⟩
def rNeA (K : PySem.W.Frag) (C : Addr) (sp : Sp) (E : XK) : R2 := fun x y H Q => ∃ a dx fs, x = .ref a ∧ H a = some (.ins C dx fs) ∧ Right K H C y ∧ sp [x, y] H (fun z H' => ∃ v, z = .bl v ∧ Q (.bl (!v)) H') E
theorem op_neA (hm : PySem.W.mroIn X.K C (.type "object") = some true) (hne : PySem.W.findIn X.K (.ref C) "__ne__" = some (some (.builtin "object.__ne__"))) (hs : PySem.W.findIn X.K (.ref C) "__eq__" = some (some (.ref g))) (hf : PySem.W.isFn X.K (.ref g) = true)
    (F : FnR X.prog X.w X.K X.mg X.base CX n g sp) (hr : Room (n + 1) X.A) (hx : Passes CX X E) : OpR X (compareOp .NotEq) (rNeA X.K C sp E) := by
  intro pins s σ H x y v u Q I rx ry h
  obtain ⟨a, dx, fs, rfl, ha, hy, q⟩ := h
  cases (show v = Value.ref a from rx)
  obtain ⟨od, J⟩ := ins_inst I ha
  obtain ⟨tb, hl, hn⟩ := right_looks I ry hy
  refine rc_ne_own (tb := tb) hr.units0 hr.in1.units0 I.kIn J hl hn hm hne hs hf ?_
  refine wpAny_mono (wpAny_call (run_at (us := [.ref a, u]) (ws := [.ref a, y]) F hr.in1 I.env0.in1 hx I (.cons rfl (.cons ry .nil)) q)) (fun w s' z => ?_) fun _ _ x => x
  obtain ⟨z', H', I', rz, b', eb, qz⟩ := z
  subst eb
  cases (show w = Value.bool b' from rz)
  exact ⟨b', rfl, .bl (!b'), H', I', rfl, qz⟩
end
/-- isinstance(x, C): x one of the class, or of another kind -/
def rIsA (K : PySem.W.Frag) (C : Addr) : List V → Hp → VK → Prop := fun xs H Q => (∃ a dx fs, xs = [.ref a, .ref C] ∧ H a = some (.ins C dx fs) ∧ Q (.bl true) H) ∨ rIsi K xs H Q
theorem call_isA {X : Cx} {C : Addr} (h : C8.InsC X.K C) : CallR X (.builtin "isinstance") (rIsA X.K C) := by
  intro pins s σ H xs us Q I r q
  rcases q with q | q
  · exact C8.call_isC h pins s σ H xs us Q I r q
  · exact call_isi pins s σ H xs us Q I r q
theorem op_in_seqK {X : Cx} {K : PySem.W.Frag} (h : X.K = K) : OpR X (compareOp .In) (rIn K false) := h ▸ op_in_seq
theorem kit_ofT {K : PySem.W.Frag} {n : String} {S : Addr} {b : Bool} (h2 : PySem.W.isClsIn K S = true) (h3 : PySem.W.typeIn K (.ref S) = some (.type "type")) (h4 : PySem.W.subIn K (.type n) (.ref S) = some b) : PySem.W.kitOne K (.type n) (.ref S) = some b := by
  have e2 : ((PySem.W.clsIn K S).isSome && PySem.W.typeIn K (.ref S) == some (.type "type")) = true := by
    rw [show (PySem.W.clsIn K S).isSome = true from h2, h3] <;> rfl
  unfold PySem.W.kitOne
  rw [if_neg (show ¬ (Value.type n == Value.ref S) = true by simp)]
  show (if ((PySem.W.clsIn K S).isSome && PySem.W.typeIn K (.ref S) == some (.type "type")) = true then PySem.W.subIn K (.type n) (.ref S) else none) = some b
  rw [if_pos e2]
  exact h4
end FR
set_option Elab.async false
set_option linter.all false
set_option maxRecDepth 100000
/-! cls(..) where cls is a local; classmethods -/
namespace FR
open PySem PySem.Spec PyProof.Rows L2 TL
section
variable {X : Cx} {CX : CXT} {k : Nat} {f C : Addr} {fd : FuncData} {ps : List Str} {sp : Sp} {dvs : List V} {ds : List Value} {E : XK} {x : Str} {p pos : Pos} {i : Nat}
def tMakeL (i : Nat) (C : Addr) (sp : Sp) (dvs : List V) (E : XK) (t : TA) : TE := fun σ H Q => σ[i]? = some (some (.ref C)) ∧ tMake C sp dvs E t σ H Q
theorem pe_makeL0 (hv : PE X (.Name x p) (tVar i)) (M : Mk X.K C f) (F : FnOk X.prog X.w X.K X.mg X.base CX k f fd ps sp) (hr : Room (k + 1) X.A) (hb : Binds X.K fd ps ds) (hd : Vals dvs ds) (hx : Passes CX X E) :
    PE X (.Call (.Name x p) [] [] pos) (tMakeL i C sp dvs E tNil) := by
  refine ⟨fun pins s σ H Q I h => ?_⟩
  obtain ⟨h1, h2⟩ := h
  refine wpAny_Call_Name_kw (thn (hv.run pins s σ H (fun v H' => v = .ref C ∧ tMake C sp dvs E tNil σ H' Q) I ⟨_, h1, rfl, h2⟩) fun u s1 hh => ?_)
  obtain ⟨v, H1, I1, r1, rfl, q⟩ := hh
  cases (show u = Value.ref C from r1)
  refine PySem.W.callWith_K0 I1.kIn M.kp ?_
  exact run_make (us := []) (vs := []) M F hr hb hd hx I1 .nil q
theorem pe_makeL {e : Expr} {es : List Expr} {t : TA} (hv : PE X (.Name x p) (tVar i)) (M : Mk X.K C f) (F : FnOk X.prog X.w X.K X.mg X.base CX k f fd ps sp) (hr : Room (k + 1) X.A) (hb : Binds X.K fd ps ds) (hd : Vals dvs ds) (hx : Passes CX X E) (ha : PA X (e :: es) t)
    (he : starEach (e :: es) X.env = (false, eval e X.env) :: starEach es X.env := by rfl) (hpl : (backTo pos (starEach es X.env)).any (·.1) = false := by rfl) :
    PE X (.Call (.Name x p) (e :: es) [] pos) (tMakeL i C sp dvs E t) := by
  refine ⟨fun pins s σ H Q I h => ?_⟩
  obtain ⟨h1, h2⟩ := h
  refine wpAny_Call_Name_kw (thn (hv.run pins s σ H (fun v H' => v = .ref C ∧ tMake C sp dvs E t σ H' Q) I ⟨_, h1, rfl, h2⟩) fun u s1 hh => ?_)
  obtain ⟨v, H1, I1, r1, rfl, q⟩ := hh
  cases (show u = Value.ref C from r1)
  refine PySem.W.callWith_K (h₀ := X.base) I1.ok.mod.kin M.kp (thn (ha.run pos pins s1 σ H1 _ I1 q) fun us s2 hz => ?_) he hpl
  obtain ⟨vs, H2, I2, r2, q2⟩ := hz
  exact ⟨I2.kIn, run_make (us := us) (vs := vs) M F hr hb hd hx I2 r2 q2⟩
end
end FR
set_option Elab.async false
set_option linter.all false
set_option maxRecDepth 100000
/-! x in t, t a tuple of data, x any datum -/
namespace FR
open PySem PySem.Spec PyProof.Rows L2 TL PySem.SeqAt
def rInTD (K : PySem.W.Frag) : R2 := fun x y H Q => ∃ (p : Addr) (d : PyData) (ds : List PyData), y = .ref p ∧ Dp K H x d ∧ Dp K H y (.tuple ds) ∧ SeqAt.shaped d = true ∧ PyData.canLayAll0 ds = true ∧ Q (.bl (ds.any fun z => z.eqv d)) H
theorem op_inTD {X : Cx} (hu : X.A.units + 65 < cLine) : OpR X (compareOp .In) (rInTD X.K) := by
  intro pins s σ H x y v u Q I rx ry h
  obtain ⟨p, d, ds, rfl, hd, hy, s1, c2, q⟩ := h
  cases (show u = Value.ref p from ry)
  obtain ⟨as, r1⟩ := Dp.reads I _ _ _ hd rx
  obtain ⟨bs, r2⟩ := Dp.reads I _ _ _ hy ry
  unfold SeqAt.shaped at s1
  rw [Bool.and_eq_true, decide_eq_true_eq] at s1
  cases r2 with
  | tuple e hc hdt hr =>
    refine in_tupleAt (fun z => (readOf s.heap z).eqv d) ⟨_, e, hc, _, hdt⟩ (items_eqAt hr r1 c2 s1.1 (by have := Nat.min_le_right (PyData.depthAll ds) d.depth; omega)) ⟨.bl (ds.any fun z => z.eqv d), H, I, ?_, q⟩
    show Value.bool _ = Value.bool _
    rw [any_by_data hr c2]
end FR
set_option Elab.async false
set_option linter.all false
set_option maxRecDepth 100000
/-! keyword calls of raising defs -/
namespace FR
open PySem PySem.Spec PyProof.Rows L2 TL
section
variable {X : Cx} {CX : CXT} {k n : Nat} {f : Addr} {fd : FuncData} {ps ks : List Str} {sp : Sp} {E : L2.St → XK} {x : Str} {p pos : Pos} {e : Expr} {es : List Expr} {kws : List Keyword} {t tk : TA} {g : List Value → List Value → List Value} {gV : List V → List V → List V}
theorem run_fnNS {pins : List (Addr × Obj)} {σ : L2.St} {H : Hp} {s : Shared} {Q : VK} {us ws : List Value} {vs zs : List V} (F : FnOk X.prog X.w X.K X.mg X.base CX k f fd ps sp) (hr : Room k X.A) (hb : KBn X.K fd ps n ks g gV) (hx : PassesAt CX X σ (E σ))
    (I : Inv X pins σ H s) (r : Vals vs us) (rz : Vals zs ws) (l1 : vs.length = n) (l2 : zs.length = ks.length) (h : sp (gV vs zs) H Q (E σ)) : wpAny (model X.prog X.w) X.A (call (.ref f) us (ks.zip ws)) (EP X pins σ Q) X.xe s := by
  have r2 := hb.rel r rz
  refine wpAny_call (codeAny_mono (F.run X.A X.stack s H ⟨us, ks.zip ws⟩ (g us ws) (gV vs zs) Q (E σ) hr I.env0 (hb.to s us ws I.kIn (r.length.symm.trans l1) (rz.length.symm.trans l2)) r2 h) fun r s' hq => ?_)
  cases r with
  | error e => exact hx pins H s e s' I hq
  | ok fl =>
    cases fl with
    | ret u => exact I.after hq
    | next => exact False.elim hq
    | brk => exact False.elim hq
    | cont => exact False.elim hq
def tCallNS (n m : Nat) (sp : Sp) (gV : List V → List V → List V) (E : L2.St → XK) (t tk : TA) : TE := fun σ H Q => t σ H fun vs H1 => tk σ H1 fun zs H2 => vs.length = n ∧ zs.length = m ∧ sp (gV vs zs) H2 Q (E σ)
theorem pe_callN0S (F : FnOk X.prog X.w X.K X.mg X.base CX k f fd ps sp) (hr : Room k X.A) (hg : Gl X x) (hm : X.mg x = some (.ref f)) (hk : PySem.W.keepIn X.K (.ref f) = true) (hb : KBn X.K fd ps 0 ks g gV) (hx : ∀ σ, PassesAt CX X σ (E σ)) (hkw : PK X kws tk)
    (hall : (backToKw pos (keywordEach kws X.env)).all (·.1.isSome) = true := by rfl) (hks : (backToKw pos (keywordEach kws X.env)).filterMap (·.1) = ks := by rfl) (hdb : (x == ("__debug__" : Str)) = false := by decide)
    (hpl : ((backTo pos (starEach [] X.env)).any (·.1) || (backToKw pos (keywordEach kws X.env)).any (·.1.isNone)) = false := by rfl) : PE X (.Call (.Name x p) [] kws pos) (tCallNS 0 ks.length sp gV E tNil tk) := ⟨fun pins s σ H Q I h => by
  refine wpAny_Call_Name_kw (ld_glob I hg hm (PySem.W.callWith_KW0 (h₀ := X.base) I.ok.mod.kin hk hall ?_ hpl) hdb)
  refine thn (hkw.run pos pins s σ H _ I h) fun ws s2 hz => ?_
  obtain ⟨zs, H2, I2, rz, l1, l2, q2⟩ := hz
  refine ⟨I2.kIn, ?_⟩
  rw [hks]
  exact run_fnNS (us := []) (vs := []) F hr hb (hx σ) I2 .nil rz rfl l2 q2⟩
end
end FR
set_option Elab.async false
set_option linter.all false
set_option maxRecDepth 100000
/-! t + u and t[lo:hi] of tuples, whichever object stands for them -/
namespace FR
open PySem PySem.Spec PyProof.Rows L2 TL
section
variable {X : Cx}
def rCatK : R2 := fun x y H Q => ∃ a b xs ys, x = .ref a ∧ y = .ref b ∧ H a = some (.tup xs) ∧ H b = some (.tup ys) ∧ xs.length + ys.length ≤ sizeLine ∧ ∀ p H', Keep [] H H' → H' p = some (.tup (xs ++ ys)) → Q (.ref p) H'
theorem op_catK : OpR X (binaryOp .Add) rCatK := fun pins s σ H x y v u Q I rx ry h => by
  obtain ⟨a, b, xs, ys, rfl, rfl, ha, hb, hz, q⟩ := h
  refine op_catA pins s σ H _ _ v u Q I rx ry ⟨a, b, xs, ys, rfl, rfl, .inl (.inl ha), .inl (.inl hb), hz, fun e => q b H Keep.refl (by rw [e]; exact hb), fun _ e => q a H Keep.refl (by rw [e, List.append_nil]; exact ha), fun _ _ p np => q p _ (keep_new np) upd_same⟩
def rSlK : V → Option Int → Option Int → Hp → VK → Prop := fun x lo hi H Q => ∃ a xs, x = .ref a ∧ H a = some (.tup xs) ∧ ∀ p H', Keep [] H H' → H' p = some (.tup (cutV xs lo hi)) → Q (.ref p) H'
theorem sl_tupK : SlR X rSlK := fun pins s σ H x v vl vu lo hi sl Q I rx hs pl pu h => by
  obtain ⟨a, xs, rfl, ha, q⟩ := h
  refine sl_tupA pins s σ H _ v vl vu lo hi sl Q I rx hs pl pu ⟨a, xs, rfl, .inl (.inl ha), fun e => q a H Keep.refl ?_, fun _ p np => q p _ (keep_new np) upd_same⟩
  rw [ha]
  unfold cutV
  rw [e.1, e.2, List.drop_zero, Nat.sub_zero, List.take_length]
end
theorem cutV_mem {xs : List V} {lo hi : Option Int} {x : V} (h : x ∈ cutV xs lo hi) : x ∈ xs := List.mem_of_mem_drop (List.mem_of_mem_take h)
end FR
set_option Elab.async false
set_option linter.all false
set_option maxRecDepth 100000
/-! blocks of a def that are shown by themselves -/
namespace FR
open PySem PySem.Spec PyProof.Rows L2 TL
/-- a block, by what it asks -/
theorem pss_b {X : Cx} {b : List Stmt} {t R : TS} (h : PSs X b t) (k : ∀ D σ H, R D σ H → t D σ H) : PSs X b R := ⟨fun pins s σ H D I q => h.run pins s σ H D I (k D σ H q)⟩
def bdF : Stmt → List Stmt
  | .For _ _ b _ _ => b
  | .While _ b _ _ => b
  | .If _ b _ _ => b
  | .Try b _ _ _ _ => b
  | _ => []
def bdE : Stmt → List Stmt
  | .For _ _ _ b _ => b
  | .While _ _ b _ => b
  | .If _ _ b _ => b
  | .Try _ _ b _ _ => b
  | _ => []
def nth (l : List Stmt) (i : Nat) : Stmt := l.getD i (.Pass ⟨0, 0, 0, 0⟩)
/-- repr, its text kept closed -/
theorem rep_to {K : PySem.W.Frag} {xs : List V} {H : Hp} {Q : VK} {p : Addr} {d : PyData} {tx : Str} (e : d.shown = tx) (h : Dp K H (.ref p) d ∧ d.showable = true ∧ d.hasDict = false ∧ d.depth ≤ 50 ∧ d.shown.length ≤ sizeLine) (hx : xs = [.ref p]) (q : Q (.str tx) H) : rReprD K xs H Q :=
  ⟨p, d, hx, h.1, h.2.1, h.2.2.1, h.2.2.2.1, h.2.2.2.2, by rw [e]; exact q⟩
theorem rep_ex {K : PySem.W.Frag} {H : Hp} {p : Addr} {d : PyData} (_ : Dp K H (.ref p) d ∧ d.showable = true ∧ d.hasDict = false ∧ d.depth ≤ 50 ∧ d.shown.length ≤ sizeLine) : ∃ t, d.shown = t := ⟨_, rfl⟩
theorem same_txt {t : Str} {A B : Prop} (b : B) : if (!decide (V.str t = V.str t)) = true then A else B := by
  rw [decide_eq_true rfl]
  exact b
end FR
set_option Elab.async false
set_option linter.all false
set_option maxRecDepth 100000
set_option maxHeartbeats 4000000
/-! set(x) of any text of seven bits; its len -/
namespace FR
open PySem PySem.Spec PyProof.Rows PySem.Froz
/-- the signs that were met, each once -/
def meet (l : List Str) (cs : List Nat) : List Str := cs.foldl (fun l c => if sing c ∈ l then l else sing c :: l) l
section
variable {P : Program} {w : World} {A : Around} {E : Value → Shared → Prop}
/-- a text that is there already -/
theorem add_there {s : Shared} {a : Addr} {T : String} {D : SD} {l : List Str} {k : Str} {u : Tok} {Q : Bool → Shared → Prop} (at_ : s.heap.get? a = some (sObj T D)) (F : TxOk P w D l) (m : k ∈ l) (room : l.length < scanBound) (q : Q false s) :
    wpAny (model P w) A (setAddHashed a (.str k u) (hashStr w k)) Q E s := by
  obtain ⟨es, ep, t⟩ := D
  have data : (sObj T (es, ep, t)).data = .set es ep t := rfl
  have small : es.size < scanBound := by
    have : es.size = l.length := F.sz
    omega
  have key : (strKind P w).is k (.str k u) = true := is_str k u
  obtain ⟨j, hj⟩ : ∃ j, List.findIdx? (fun e => (strKind P w).is k e.2) es.toList = some j := by
    cases z : List.findIdx? (fun e => (strKind P w).is k e.2) es.toList with
    | some j => exact ⟨j, rfl⟩
    | none =>
      obtain ⟨e, he, y⟩ := (F.mem k).mp m
      have := List.findIdx?_eq_none_iff.mp z e he
      rw [y] at this
      cases this
  unfold setAddHashed setAddHashedIn
  refine wpAny_holding (wpAny_bind (wpAny_setState_of at_ data F.fit ?_))
  dsimp only
  rw [byScan_of rfl small F.el, if_pos rfl]
  unfold setAddByScan
  refine wpAny_bind (wpAny_bind (wpAny_rule (wpAny_bind (wpAny_setScan_of (knd := strKind P w) (k := k) key at_ data F.fit F.el ?_))))
  rw [hj]
  exact wpAny_pure (wpAny_pure q)
/-- the rest of a text's signs into the set -/
theorem upd_signs {R : Result → Shared → Prop} {a it : Addr} (ne : a ≠ it) {T : String} {x : Str} {u : Tok} (hh : A.handled = none) : ∀ (cs : List Nat) (i : Nat) (D : SD) (l : List Str) (s : Shared), x.cps.toList.drop i = cs →
    s.heap.get? a = some (sObj T D) → s.heap.get? it = some (itObj x u i) → TxOk P w D l → l.length + cs.length < scanBound →
    (∀ (D' : SD) (h' : Heap) (tk : Nat), TxOk P w D' (meet l cs) → h'.get? a = some (sObj T D') → (∀ b o, b ≠ a → b ≠ it → s.heap.get? b = some o → h'.get? b = some o) → R (.ok (.ret .none)) { s with heap := h', toks := tk }) →
    codeAny (model P w) A (.builtin "set.update.loop" ⟨[.ref a, .ref it], []⟩) R s
  | [], i, D, l, s, dr, ha, hit, F, room, q => by
    refine codeAny_builtin PyProof.Rows.F.entry_set_update_loop ?_
    rw [Around.under_plainId PyProof.Rows.F.plain_set_update_loop _]
    show wpAny _ A.in1 (pyNext (.ref it) >>= fun _ => _) _ _ s
    refine wpAny_bind (end_x (u := u) (by exact hh) hit (at_end dr) ?_)
    show wpAny _ A.in1 (ret Value.none) _ _ _
    refine wpAny_pure (q D _ _ F (Heap.get?_push_of_some _ (Heap.get?_push_of_some _ (PySem.Heap.get?_update_of_ne _ (Ne.symm ne) ha))) fun b o _ n2 e => ?_)
    exact Heap.get?_push_of_some _ (Heap.get?_push_of_some _ (PySem.Heap.get?_update_of_ne _ (Ne.symm n2) e))
  | c :: r, i, D, l, s, dr, ha, hit, F, room, q => by
    obtain ⟨hx, dr2⟩ := at_of dr
    have room2 : l.length + (r.length + 1) < scanBound := room
    have move : ∀ b o, b ≠ it → s.heap.get? b = some o → (s.heap.update it (fun _ => itObj x u (i + 1))).get? b = some o := fun b o n e => PySem.Heap.get?_update_of_ne _ (Ne.symm n) e
    refine codeAny_builtin PyProof.Rows.F.entry_set_update_loop ?_
    rw [Around.under_plainId PyProof.Rows.F.plain_set_update_loop _]
    show wpAny _ A.in1 (pyNext (.ref it) >>= fun _ => _) _ _ s
    refine wpAny_bind (next_x (u := u) hit hx ?_)
    show wpAny _ A.in1 (holding [Value.str (sing c) s.toks] (setAdd a (.str (sing c) s.toks)) >>= fun _ => _) _ _ _
    refine wpAny_bind (wpAny_holding ?_)
    unfold setAdd
    refine wpAny_holding (wpAny_bind ((strKind P w).pyHash (k := sing c) (is_str _ _) ?_))
    have ha1 := move a _ ne ha
    have hit1 : (s.heap.update it (fun _ => itObj x u (i + 1))).get? it = some (itObj x u (i + 1)) := get_upd _ hit rfl
    by_cases m : sing c ∈ l
    · refine add_there (s := { s with heap := s.heap.update it (fun _ => itObj x u (i + 1)), toks := s.toks + 1 + 1 }) ha1 F m (by omega) ?_
      refine wpAny_pure ⟨plainId_quiet PyProof.Rows.F.plain_set_update_loop _, upd_signs ne hh r (i + 1) D l _ dr2 ha1 hit1 F (by omega) fun D' h' tk F' a' k' => ?_⟩
      exact q D' h' tk (by unfold meet at F' ⊢; rw [List.foldl_cons, if_pos m]; exact F') a' fun b o n1 n2 e => k' b o n1 n2 (move b o n2 e)
    · refine add_x (l := l) (D := D) (s := { s with heap := s.heap.update it (fun _ => itObj x u (i + 1)), toks := s.toks + 1 + 1 }) ha1 F m (by omega) ?_
      have ha2 : ((s.heap.update it (fun _ => itObj x u (i + 1))).update a (fun _ => sObj T (addTx (hashStr w (sing c)) (.str (sing c) s.toks) D))).get? a = some (sObj T (addTx (hashStr w (sing c)) (.str (sing c) s.toks) D)) := get_upd _ ha1 rfl
      have hit2 : ((s.heap.update it (fun _ => itObj x u (i + 1))).update a (fun _ => sObj T (addTx (hashStr w (sing c)) (.str (sing c) s.toks) D))).get? it = some (itObj x u (i + 1)) := PySem.Heap.get?_update_of_ne _ ne hit1
      refine wpAny_pure ⟨plainId_quiet PyProof.Rows.F.plain_set_update_loop _, upd_signs ne hh r (i + 1) _ (sing c :: l) _ dr2 ha2 hit2 (add_ok s.toks F) (by show l.length + 1 + r.length < scanBound; omega) fun D' h' tk F' a' k' => ?_⟩
      exact q D' h' tk (by unfold meet at F' ⊢; rw [List.foldl_cons, if_neg m]; exact F') a' fun b o n1 n2 e => k' b o n1 n2 (PySem.Heap.get?_update_of_ne _ (Ne.symm n1) (move b o n2 e))
theorem call_set_any {s : Shared} {x : Str} {u : Tok} {Q : Value → Shared → Prop} (hh : A.handled = none) (ha : x.cps.all (· < 128) = true) (hb : x.cps.toList.length < scanBound)
    (h : ∀ (h' : Heap) (tk : Nat) (D : SD), h'.get? s.heap.objs.size = some (sObj "set" D) → TxOk P w D (meet [] x.cps.toList) → (∀ b o, b < s.heap.objs.size → s.heap.get? b = some o → h'.get? b = some o) →
      Q (.ref s.heap.objs.size) { s with heap := h', toks := tk }) :
    wpAny (model P w) A (call (.type "set") [.str x u]) Q E s := by
  obtain ⟨c, tl, hmro⟩ := PySem.F.called_set.mro
  have hmade := PySem.F.called_set.made
  have hsub := PySem.F.called_set.sub
  refine wpAny_call (codeAny_of_tree ?_)
  show wpAny _ _ (callAny (.type "set") _) _ _ _
  refine wpAny_pure ⟨Code.quiet_builtin _ (by decide +kernel), codeAny_builtin PySem.F.entry_type_call ?_⟩
  rw [Around.under_plain (weight_type_call_type "set" [.str x u] []) rfl]
  have h1 := PySem.F.called_set.notType
  have h2 := PySem.F.called_set.canCreate
  have hct := PySem.F.typeCall_set_1 (.str x u)
  repeat (any_goals (first | assumption | wp_step))
  let S0 : Bool → Obj := fun led => { cls := .type "set", dict := none, data := .set #[] 0 (.fresh 0 0 led) }
  refine codeAny_mono (code_set_new_1 (.str x u) (E := E) (Q₁ := fun obj s1 => ∃ led : Bool, obj = .ref s.heap.objs.size ∧ s1 = { s with heap := s.heap.push (S0 led) }) fun led => ⟨led, rfl, rfl⟩) fun r s1 hr => ?_
  match r, hr with
  | .error e, hr => exact hr
  | .ok (.ret obj), hr =>
    obtain ⟨led, rfl, rfl⟩ := hr
    have hS : (s.heap.push (S0 led)).get? s.heap.objs.size = some (S0 led) := Heap.get?_push_size _ rfl
    have hT : Shared.TypeIs { s with heap := s.heap.push (S0 led) } (.ref s.heap.objs.size) "set" := ⟨_, hS, rfl⟩
    have hli := PySem.F.called_set.init.lookup
    have hbi := PySem.F.called_set.init.bind (.ref s.heap.objs.size)
    repeat (any_goals (first | assumption | wp_step))
    refine codeAny_mono (codeAny_call_builtin (R := wants (fun r s2 => r = .none ∧ ∃ (h' : Heap) (tk : Nat) (D : SD), s2 = { s with heap := h', toks := tk } ∧ h'.get? s.heap.objs.size = some (sObj "set" D) ∧ TxOk P w D (meet [] x.cps.toList) ∧
      (∀ b o, b < s.heap.objs.size → s.heap.get? b = some o → h'.get? b = some o)) E) PySem.F.called_set.init.plain PySem.F.entry_set_init (check_set_init_1 hT ?_)) fun r2 s2 hr2 => ?_
    · have hs1 := PySem.F.sub_str_set
      have hs2 := PySem.F.sub_str_frozenset
      have hne : (Value.type "str" == Value.type "dict") = false := by decide
      unfold Builtin.«set.__init__» noKeywords Builtin.Frozenset.updateFrom
      generalize hPI : pyIter = PI
      wp_walk
      subst hPI
      refine wpAny_pyIter_ascii ha ?_
      refine wpAny_bind (wpAny_runValue ?_)
      have hsz : (s.heap.push (S0 led)).objs.size = s.heap.objs.size + 1 := Heap.size_push ..
      have hne2 : s.heap.objs.size ≠ (s.heap.push (S0 led)).objs.size := by omega
      have F0 : TxOk P w (#[], 0, .fresh 0 0 led) [] := TxOk.nil (by rfl)
      refine upd_signs (T := "set") (x := x) (u := u) (P := P) (w := w) hne2 (by simp [hh]) x.cps.toList 0 (#[], 0, .fresh 0 0 led) [] _ rfl (Heap.get?_push_of_some _ hS) (Heap.get?_push_size _ rfl) F0 (by simpa using hb) fun D' h' tk F' a' k' => ?_
      show wpAny _ _ (pure ()) _ _ _
      refine wpAny_pure ?_
      show wpAny _ _ (ret Value.none) _ _ _
      refine wpAny_pure ⟨rfl, _, _, D', rfl, a', F', fun b o hb2 e => ?_⟩
      have n1 : b ≠ s.heap.objs.size := Nat.ne_of_lt hb2
      have n2 : b ≠ (s.heap.push (S0 led)).objs.size := by omega
      exact k' b o n1 n2 (Heap.get?_push_of_some _ (Heap.get?_push_of_some _ e))
    · match r2, hr2 with
      | .error e, hr2 => exact hr2
      | .ok (.ret r), hr2 =>
        obtain ⟨rfl, h', tk, D, rfl, g1, g2, g4⟩ := hr2
        repeat (any_goals (first | assumption | wp_step))
        exact h _ _ _ g1 g2 g4
      | .ok .next, hr2 => exact hr2.elim
      | .ok .brk, hr2 => exact hr2.elim
      | .ok .cont, hr2 => exact hr2.elim
  | .ok .next, hr => exact hr.elim
  | .ok .brk, hr => exact hr.elim
  | .ok .cont, hr => exact hr.elim
end
section
open L2
theorem meet_len : ∀ (cs : List Nat) (l : List Str), (meet l cs).length ≤ l.length + cs.length
  | [], l => Nat.le_refl _
  | c :: r, l => by
    unfold meet
    rw [List.foldl_cons]
    have h1 := meet_len r l
    have h2 := meet_len r (sing c :: l)
    unfold meet at h1 h2
    split
    · simp only [List.length_cons] at h1 ⊢; omega
    · simp only [List.length_cons] at h2 ⊢; omega
def tLenSetA (ta : TE) : TE := fun σ H Q => ta σ H fun x H1 => ∃ t : Str, x = .str t ∧ t.cps.all (· < 128) = true ∧ t.cps.toList.length ≤ 4000 ∧ Q (.int ((meet [] t.cps.toList).length : Nat)) H1
/-- len(set(e)), e a text -/
theorem pe_lenSetA {X : Cx} {a : Expr} {ta : TE} {p p2 q pos : Pos} (hg : Gl X "len") (hm : X.mg "len" = none) (hg2 : Gl X "set") (hm2 : X.mg "set" = none) (ha : PE X a ta) (hc : X.calm = true := by rfl)
    (na : starEach [a] X.env = (false, eval a X.env) :: starEach [] X.env := by rfl) : PE X (.Call (.Name "len" p) [.Call (.Name "set" p2) [a] [] q] [] pos) (tLenSetA ta) := by
  refine ⟨fun pins s σ H Q I h => ?_⟩
  refine Call_ (ld_blt I hg hm boot_len ?_)
  refine PyProof.Rows.callWith_builtin1 (PyProof.Rows.args_cons ?_ rfl) rfl rfl
  refine Call_ (ld_blt I hg2 hm2 (show bootBuiltins ("set" : Str) = some (.type "set") by decide +kernel) ?_)
  refine PyProof.Rows.callWith_type1 (PyProof.Rows.args_cons (thn (ha.run pins s σ H _ I h) fun v s1 ⟨x, H1, I1, r1, q1⟩ => PyProof.Rows.args_nil ?_) na) na rfl
  obtain ⟨t, rfl, h1, h3, q1⟩ := q1
  obtain ⟨tk0, rfl⟩ := r1
  refine call_set_any (I1.ok.hd hc) h1 (by unfold scanBound; omega) fun h' tk D g1 F hk => ?_
  refine PyProof.Rows.args_nil ?_
  have I2 : Inv X pins σ H1 { s1 with heap := h', toks := tk } := I1.kept fun b o e => hk b o (Heap.lt_size e) e
  have hn : D.1.size = (meet [] t.cps.toList).length := F.sz
  have hl := meet_len t.cps.toList []
  simp only [List.length_nil, Nat.zero_add] at hl
  exact call_len_set (es := D.1) (ep := D.2.1) (t := D.2.2) g1 ⟨rfl, rfl, rfl⟩ rfl F.fit (by rw [hn]; omega) ⟨.int (meet [] t.cps.toList).length, H1, I2.tok _, ⟨_, by rw [hn]⟩, q1⟩
end
end FR
set_option Elab.async false
set_option linter.all false
set_option maxRecDepth 100000
set_option maxHeartbeats 2000000
/-! a lambda handed to a def, where no repr is under way -/
namespace FR
open PySem PySem.Spec PyProof.Rows L2 TL LamX
section
variable {X : Cx} {σ : L2.St} {H : Hp} {s : Shared} {params : Arguments} {body : Expr} {scope : Scope} {f c' : Addr} {pm ctv : Value} {pins : List (Addr × Obj)}
/-- the lambda's own run, at the around Y -/
theorem lam_run {Y : Around} {outer : List Env} {s1 : Shared} {HZ : Hp} {E : XK} {Q : VK} {tb : TE} {k : Nat} (I : Inv X pins σ H s) (L : LamS X.env.scope scope)
    (hb : bindArgs (PySem.W.kla_fn "<lambda>" (X.env.qual ++ "<lambda>") params body scope (cloFrom X.env.cells scope.names []) pm (.ref c') ctv) ⟨[], []⟩ = pure [])
    (e0 : Env0 X.prog X.w X.K X.mg X.base Y outer s1 HZ) (nl : s1.heap.NoLimit) (hd : Y.handled = none) (hr : Room (k + 1) Y) (un : Un (frs X.stack) [] H HZ s.heap s1.heap)
    (at_ : s1.heap.get? f = some (PySem.W.kla_obj "<lambda>" (X.env.qual ++ "<lambda>") params body scope (cloFrom X.env.cells scope.names []) pm c' ctv)) (hc : HZ c' = some (CodeO c' (X.env.qual ++ "<lambda>")))
    (P : PE (lamCx X Y outer s1 HZ E scope f c') body tb) (ht : tb σ HZ Q) : codeAny (model X.prog X.w) Y (.call (.ref f) ⟨[], []⟩) (CR (L2.CX X.prog X.w) outer X.prog X.w HZ s1 Q E) s1 := by
  obtain ⟨oc, vs, t, g1, g2, g3⟩ := (e0.hok c' _ hc).1
  refine PySem.W.kla_callFunE hr.depth at_ rfl L.co L.gen rfl ⟨c', oc, vs, t, rfl, g1, g2, g3⟩ ?_
  rw [hb]
  refine wpAny_pure (wpAny_newFunctionEnv (fun y hy => (L.own y hy).2) (fun y hy => absurd hy (by simp)) (fun h1 ns same => ⟨nl.fresh _ same, ?_⟩) L.kind)
  have up : ∀ b o, s1.heap.get? b = some o → h1.get? b = some o := fun b o e => same.extBut b o (Nat.ne_of_lt (Heap.lt_size e)) (Heap.get?_push_of_some _ e)
  have J := lam_start2 (E := E) (f := f) (c' := c') (tk := s1.toks + ([] : List (Str × Value)).length) I L e0 hd un ns up
  show codeAny _ _ (.expr body (lamEnv X scope s1.heap.objs.size f c')) _ _
  refine PySem.W.kla_codeExpr (wpAny_mono (P.run [] _ _ HZ Q J ht) (fun v s2 z => ?_) fun _ _ z => z)
  obtain ⟨u, H2, J2, ru, qu⟩ := z
  exact ⟨u, H2, J2.os, J2.bare, J2.base, J2.hok, ru, qu⟩
/-- a() in the def that got the lambda -/
def tAct (f c' : Addr) (q : Str) (i : Nat) (tl : XK → Hp → VK → Prop) (W : WX) : TE := fun σZ HZ Q => σZ[i]? = some (some (.ref f)) ∧ HZ c' = some (CodeO c' q) ∧ tl (WE W σZ) HZ Q
end
/-- a def that is handed a lambda and calls it: TT is what it makes of the lambda's reading -/
def Gives (X : Cx) (N : List Str) (x : Str) (sc : Scope) (g : Addr) (cd : Value) (b : List Stmt) (a : Str) (q : Str) (TT : (XK → Hp → VK → Prop) → Hp → VK → Prop) : Prop :=
  ∀ (f c' : Addr) (s : Shared) (H : Hp) (Q : VK) (tl : XK → Hp → VK → Prop),
    (∀ (W : WX) (pn : List (Addr × Obj)) (xe : Value → Shared → Prop) (p1 p2 : Pos), Takes ((cxOf CX0 X.prog X.w X.K X.mg X.base N x sc g cd X.A X.stack s H fun _ _ _ => False).tr pn xe) W →
      PE ((cxOf CX0 X.prog X.w X.K X.mg X.base N x sc g cd X.A X.stack s H fun _ _ _ => False).tr pn xe) (.Call (.Name a p1) [] [] p2) (tAct f c' q 0 tl W)) →
    Room 1 (X.A.deeper (envOfC x sc s.heap.objs.size g cd)) → H c' = some (CodeO c' q) → TT tl H Q →
    ∃ t, PSs (cxOf CX0 X.prog X.w X.K X.mg X.base N x sc g cd X.A X.stack s H fun _ _ _ => False).nox b t ∧ t { nx := fun _ H' => Q .non H', rt := Q } (L2.start N [.ref f]) H
/-- x(lambda: body) -/
def tGive (T : List (Addr × Str)) (TT : (XK → Hp → VK → Prop) → Hp → VK → Prop) (t : XK → TE) : TE := fun σ H Q => Tabs T H ∧ ∀ H1, ExtN H H1 → Tabs T H1 → TT (fun E H' Q' => t E σ H' Q') H1 Q
section
variable {X : Cx}
theorem pe_give {T : List (Addr × Str)} {TT : (XK → Hp → VK → Prop) → Hp → VK → Prop} {x a : Str} {g c P : Addr} {k : Nat} {st : Stmt} {fd : FuncData} {N : List Str} {params : Arguments} {body : Expr} {scope : Scope} {t : XK → TE} {p lp pos : Pos}
    (hgd : X.A.guards = some []) (hr : Room (k + 2) X.A) (F : Fun X.K x x st g fd) (B : Binds X.K fd [a] []) (S : FnScope N [a] (defScope st)) (hN : N[0]? = some a) (hv : Vis (defScope st) a) (hg : Gl X x) (hm : X.mg x = some (.ref g)) (hk : PySem.W.keepIn X.K (.ref g) = true)
    (G : ∀ cd, Gives X N x (defScope st) g cd (defBody st) a (X.env.qual ++ "<lambda>") TT)
    (TB : TabB X.base X.mg c P) (hcode : X.env.code = .ref c) (hT : (P, X.env.qual ++ "<lambda>") ∈ T) (hu : ∀ p ∈ T, p.1 = P → p.2 = X.env.qual ++ "<lambda>") (L : LamS X.env.scope scope) (hdef : defaultsOf params X.env = ([], []))
    (hb : ∀ (q : Str) (cl : List (Str × Addr)) (pm cv ctv : Value), bindArgs (PySem.W.kla_fn "<lambda>" q params body scope cl pm cv ctv) ⟨[], []⟩ = pure [])
    (hbody : ∀ (Y : Around) (outer : List Env) (s : Shared) (H : Hp) (E : XK) (f c' : Addr), Y.guards = some [] → Room k (Y.deeper (lamEnv X scope s.heap.objs.size f c')) → PE (lamCx X Y outer s H E scope f c') body (t E))
    (hdb : (x == ("__debug__" : Str)) = false := by decide) (hda : (a == ("__debug__" : Str)) = false := by decide) (hca : (a == ("__classdict__" : Str)) = false := by decide) :
    PE X (.Call (.Name x p) [.Lambda params body scope lp] [] pos) (tGive T TT t) := by
  refine ⟨fun pins s σ H Q I ⟨ht, h⟩ => wpAny_Call_Name_kw (ld_glob I hg hm (PySem.W.callWith_K (h₀ := X.base) I.ok.mod.kin hk ?_ (by rfl) (by rfl)) hdb)⟩
  show wpAny _ _ (spliced ((false, eval (.Lambda params body scope lp) X.env) :: backTo pos (starEach [] X.env))) _ _ s
  refine Calls.spliced_cons (lam_make2 I TB hcode hT hu ht hdef (L.has I.ok) fun f c' pm ctv H1 s1 I1 eN T1 hf hfn hfr hco => Calls.spliced_nil ⟨I1.kIn, ?_⟩)
  obtain ⟨oc, od, kV, doc, pm', an, cdv, ct, osl, rfl, lk, hcd⟩ := F.ex
  have rc : codeAny (model X.prog X.w) X.A (.call (.ref g) ⟨[.ref f], []⟩) (CR CX0 X.stack X.prog X.w H1 s1 Q fun _ _ _ => False) s1 := by
    refine run_ofS (N := N) (ps := [a]) (us := [.ref f]) (vs := [.ref f]) lk hcd S hr I1.env0 (B s1 [.ref f] I1.kIn rfl) (.cons rfl .nil) rfl fun hr1 => ?_
    have hr0 : Room 1 (X.A.deeper (envOfC x (defScope st) s1.heap.objs.size g cdv)) := hr1.mono (by omega)
    have act : ∀ (W : WX) (pn : List (Addr × Obj)) (xe : Value → Shared → Prop) (p1 p2 : Pos), Takes ((cxOf CX0 X.prog X.w X.K X.mg X.base N x (defScope st) g cdv X.A X.stack s1 H1 fun _ _ _ => False).tr pn xe) W →
        PE ((cxOf CX0 X.prog X.w X.K X.mg X.base N x (defScope st) g cdv X.A X.stack s1 H1 fun _ _ _ => False).tr pn xe) (.Call (.Name a p1) [] [] p2) (tAct f c' (X.env.qual ++ "<lambda>") 0 (fun E H' Q' => t E σ H' Q') W) := by
      intro W pn xe p1 p2 tk
      refine ⟨fun pinsZ sZ σZ HZ QZ IZ hz => ?_⟩
      obtain ⟨z1, z2, z3⟩ := hz
      refine wpAny_Call_Name_kw (thn ((pe_var (pos := p1) (i := 0) hN hv hda hca).run pinsZ sZ σZ HZ (fun v H2 => v = .ref f ∧ H2 = HZ) IZ ⟨.ref f, z1, rfl, rfl⟩) fun u s2 ⟨v, H2, I2, r2, q2⟩ => ?_)
      obtain ⟨rfl, rfl⟩ := q2
      obtain rfl : u = Value.ref f := r2
      have stay := I2.base.keep f _ hf hfn hfr (fun z => nomatch (show f ∈ ([] : List Addr) from z))
      refine PySem.W.callWith_F0 ⟨_, _, _, _, stay⟩ ?_
      have run2 : codeAny (model X.prog X.w) (X.A.deeper (envOfC x (defScope st) s1.heap.objs.size g cdv)) (.call (.ref f) ⟨[], []⟩) (CR (L2.CX X.prog X.w) (envOfC x (defScope st) s1.heap.objs.size g cdv :: X.stack) X.prog X.w H2 s2 QZ (WE W σZ)) s2 :=
        lam_run (X := X) (k := k) (tb := t (WE W σZ)) I1 L (hb _ _ _ _ _) I2.env0 I2.nolimit hr1.hd hr1 I2.base stay z2 (hbody _ _ s2 H2 (WE W σZ) f c' hgd (hr1.deeper _)) z3
      refine wpAny_call (codeAny_mono run2 fun r s3 hq => ?_)
      cases r with
      | error e => exact passAt tk σZ pinsZ H2 s2 e s3 I2 hq
      | ok fl =>
        cases fl with
        | ret u => exact I2.after hq
        | next => exact False.elim hq
        | brk => exact False.elim hq
        | cont => exact False.elim hq
    obtain ⟨t', a1, a2⟩ := G cdv f c' s1 H1 Q (fun E H' Q' => t E σ H' Q') act hr0 hco (h H1 eN T1)
    exact ⟨t', a1.nox, a2⟩
  refine wpAny_call (codeAny_mono rc fun r s2 hq => ?_)
  cases r with
  | error e => exact (show False from hq).elim
  | ok fl =>
    cases fl with
    | ret u => exact I1.after hq
    | next => exact False.elim hq
    | brk => exact False.elim hq
    | cont => exact False.elim hq
end
end FR
set_option Elab.async false
set_option linter.all false
set_option maxRecDepth 100000
set_option maxHeartbeats 4000000
/-! own operators with anything on the right; repr of any datum; what a raising call lets out; keys of a dict of the module -/
namespace FR
open PySem PySem.Spec PyProof.Rows L2 TL
section
variable {X : Cx}
theorem tk0 {X : Cx} : Takes X (fun _ _ _ _ => False) := fun u s' h => by
  obtain ⟨_, _, _, _, _, _, _, _, _, _, _, _, _, _, _, _, z⟩ := h
  exact z.elim
/-- nothing is let out -/
theorem px0 : Passes (L2.CX X.prog X.w) X (fun _ _ _ => False) := passes_call tk0 fun _ _ _ _ h => h
/-- let out of the def itself -/
theorem pxE {E : XK} (hs : X.stack = X.env :: X.outer) (hf : X.env.frame = some X.env.locals) (hex : X.ex = []) {E1 : Value → Shared → Prop}
    (hx : X.xe = fun e s' => wpAny (model X.prog X.w) X.A (leaving X.env e) (fun _ s'' => L2.CX X.prog X.w X.outer X.H_0 X.s_0 E e s'') E1 s') : Passes (L2.CX X.prog X.w) X E := passes_call (takes_of hs hf hex hx) fun _ _ _ _ h => h
def known (T : String) (nm : String) : Bool := (fastLookup T (dunder nm)).isSome && (fastLookup T (dunderR nm)).isSome
theorem fills_any {T nm : String} (h : known T nm = true) : ∃ r z, fillsNumberSlot (.type T) nm = pure r ∧ typeLookup (.type T) (dunderR nm) = pure z := by
  unfold known at h
  rw [Bool.and_eq_true] at h
  obtain ⟨a, ha⟩ := Option.isSome_iff_exists.mp h.1
  obtain ⟨b, hb⟩ := Option.isSome_iff_exists.mp h.2
  have e1 : typeLookup (.type T) (dunder nm) = pure a := by rw [typeLookup_type, builtinLookup_eq_fast, ha]
  have e2 : typeLookup (.type T) (dunderR nm) = pure b := by rw [typeLookup_type, builtinLookup_eq_fast, hb]
  unfold fillsNumberSlot
  simp only [e1, e2, pure_bind]
  exact ⟨_, _, rfl, rfl⟩
variable {C g : Addr} {n : Nat} {sp : Sp} {E : XK} {CX : CXT}
/-- x op y, x of the class at C; its def lets something out -/
def rBinX (K : PySem.W.Frag) (C : Addr) (nm : String) (sp : Sp) (E : XK) : R2 := fun x y H Q => ∃ a dx fs, x = .ref a ∧ H a = some (.ins C dx fs) ∧
  ((∃ b dy gs, y = .ref b ∧ H b = some (.ins C dy gs) ∧ sp [x, y] H Q E) ∨ ∃ T, TyX K H y (.type T) ∧ known T nm = true ∧ PySem.W.subIn K (.type T) (.ref C) = some false ∧ sp [x, y] H (fun _ _ => False) E)
theorem op_binX {op : Operator} (hc : PySem.W.selfFirst X.K C = true) (hs : PySem.W.findIn X.K (.ref C) (PySem.dunder op.info.2) = some (some (.ref g))) (hR : PySem.W.findIn X.K (.ref C) (PySem.dunderR op.info.2) = some none) (hf : PySem.W.isFn X.K (.ref g) = true)
    (F : FnR X.prog X.w X.K X.mg X.base CX n g sp) (hr : Room n X.A) (hx : Passes CX X E) : OpR X (binaryOp op) (rBinX X.K C op.info.2 sp E) := by
  intro pins s σ H x y v u Q I rx ry h
  obtain ⟨a, dx, fs, rfl, ha, ⟨b, dy, gs, rfl, hb, q⟩ | ⟨T, ty, kn, sub, q⟩⟩ := h
  · exact op_binI hc hs hf F hr hx pins s σ H _ _ v u Q I rx ry ⟨a, dx, fs, b, dy, gs, rfl, rfl, ha, hb, q⟩
  cases (show v = Value.ref a from rx)
  obtain ⟨od, J⟩ := ins_inst I ha
  obtain ⟨Pk, kx, hP, _⟩ := L2.kit_of I ry ty
  have KI := I.kIn
  have look := kx.ty (model X.prog X.w) s.heap KI hP
  obtain ⟨cd, hcd, hm⟩ := PySem.W.any_some hc
  obtain ⟨rest, hm⟩ : ∃ rest, cd.mro = .ref C :: rest := by
    cases z : cd.mro with
    | nil => rw [z] at hm; cases hm
    | cons c r => rw [z, List.head?_cons] at hm; cases (beq_iff_eq.mp hm); exact ⟨r, rfl⟩
  obtain ⟨r, z0, hfill, hz0⟩ := fills_any kn
  have run : wpAny (model X.prog X.w) X.A (callSpecial? (.ref a) (PySem.dunder op.info.2) [u]) (fun _ _ => False) X.xe s := by
    refine PySem.W.special_fn KI J hs (beq_iff_eq.mp hf) (wpAny_mono (wpAny_call (run_fnR (us := [.ref a, u]) (vs := [.ref a, y]) F hr hx I (.cons rfl (.cons ry .nil)) q)) (fun w s' z => ?_) fun _ _ z => z)
    obtain ⟨_, _, _, _, z⟩ := z
    exact z
  have fin : ∀ {α : Type} (f : Option Value → Sem α) (Q' : α → Shared → Prop), wpAny (model X.prog X.w) X.A (tryMethod (.ref a) (PySem.dunder op.info.2) u >>= f) Q' X.xe s := fun f Q' => by
    refine wpAny_bind ?_
    unfold tryMethod
    exact wpAny_bind (wpAny_mono run (fun _ _ z => z.elim) fun _ _ z => z)
  unfold binaryOp
  refine wpAny_holding (wpAny_bind ?_)
  show wpAny _ _ (binaryOp1 op.info.2 (.ref a) u) _ _ _
  generalize op.info.2 = nm at *
  unfold binaryOp1
  refine wpAny_bind (J.type.here (wpAny_bind (look.here (wpAny_bind ((PySem.W.fills_K KI hcd hm hs).here ?_)))))
  have ne : (Value.ref C == Value.type T) = false := by simp
  simp only [ne, Bool.false_eq_true, if_false]
  rw [hfill]
  refine wpAny_bind (wpAny_pure ?_)
  cases r with
  | false =>
    simp only [Bool.and_false, Bool.false_eq_true, if_false, Bool.false_and, if_true, pure_bind]
    exact fin _ _
  | true =>
    simp only [Bool.and_self, Bool.not_false, if_true]
    refine wpAny_bind ((PySem.W.looks_subIn KI sub).here ?_)
    simp only [Bool.false_eq_true, if_false, Bool.not_false, Bool.and_self, if_true, pure_bind]
    refine wpAny_bind ?_
    unfold numberSlotInPython
    refine wpAny_bind ((PySem.W.looks_findIn KI hs).here ?_)
    refine wpAny_bind ?_
    refine wpAny_pure ?_
    refine wpAny_bind ((PySem.W.looks_findIn KI hR).here ?_)
    refine wpAny_bind (wpAny_pure ?_)
    simp only [Bool.or_false, if_true, Bool.true_or]
    refine wpAny_pure ?_
    simp only [if_true, pure_bind, Bool.not_false]
    rw [hz0]
    exact wpAny_bind (wpAny_pure (fin _ _))
/-- x op y (a comparison), x of the class at C, anything on the right -/
def rCmpX (K : PySem.W.Frag) (C : Addr) (sp : Sp) (E : XK) : R2 := fun x y H Q => ∃ a dx fs t, x = .ref a ∧ H a = some (.ins C dx fs) ∧ TyX K H y t ∧ PySem.W.notFirst K C t = true ∧ sp [x, y] H Q E
theorem op_cmpX {op : CmpOp} (hop : ∀ a b, compareOp op a b = richCompare op a b) (hs : PySem.W.findIn X.K (.ref C) (cmpInfo op).2.1 = some (some (.ref g))) (hf : PySem.W.isFn X.K (.ref g) = true) (F : FnR X.prog X.w X.K X.mg X.base CX n g sp)
    (hr : Room n X.A) (hx : Passes CX X E) : OpR X (compareOp op) (rCmpX X.K C sp E) := by
  intro pins s σ H x y v u Q I rx ry h
  obtain ⟨a, dx, fs, t, rfl, ha, ty, hn, q⟩ := h
  cases (show v = Value.ref a from rx)
  obtain ⟨od, J⟩ := ins_inst I ha
  obtain ⟨Pk, kx, hP, _⟩ := L2.kit_of I ry ty
  obtain ⟨m, hF⟩ := I.fr
  rw [hop]
  refine PySem.W.cmp_K (op := op) (tb := t) hr.units0 hF I.ok.mod.kin J (kx.ty _ _ I.kIn hP) hn hs hf ?_
  refine wpAny_mono (wpAny_call (run_fnR (us := [.ref a, u]) (vs := [.ref a, y]) F hr hx I (.cons rfl (.cons ry .nil)) q)) (fun w s' z => ?_) fun _ _ x => x
  obtain ⟨z', H', I', rz, qz⟩ := z
  exact SlX.cmpback rz ⟨z', H', I', rz, qz⟩
end
/-! ### repr -/
section
variable {X : Cx}
/-- repr of data, of a scalar too -/
def rReprS : List V → Hp → VK → Prop := fun xs H Q => rReprQ xs H Q ∨ (∃ i : Int, xs = [.int i] ∧ i.natAbs.log2 < 1920 ∧ Q (.str (PyData.shown (.int i))) H) ∨ (∃ b : Bool, xs = [.bl b] ∧ Q (.str (PyData.shown (.bool b))) H) ∨ (xs = [.non] ∧ Q (.str (PyData.shown .none)) H) ∨
  ∃ t : Str, xs = [.str t] ∧ (PyData.shown (.str t)).length ≤ sizeLine ∧ Q (.str (PyData.shown (.str t))) H
theorem call_reprX (hgd : X.A.guards = some []) (hu : X.A.units + 65 < cLine) : CallR X (.builtin "repr") rReprS := fun pins s σ H xs us Q I r h => by
  have fin : ∀ (t : Str) (u : Tok), Q (.str t) H → EP X pins σ Q (.str t u) { s with toks := s.toks + 1 } := fun t u q => ⟨.str t, H, I.tok _, ⟨_, rfl⟩, q⟩
  rcases h with h | ⟨i, rfl, hi, q⟩ | ⟨b, rfl, q⟩ | ⟨rfl, q⟩ | ⟨t, rfl, ht, q⟩
  · exact call_reprQ hgd hu pins s σ H xs us Q I r h
  · obtain ⟨u, rfl, k, rfl⟩ := r.one
    exact PySem.P.repr_of_int hi (fin _ _ q)
  · obtain ⟨u, rfl, ru⟩ := r.one
    cases (show u = Value.bool b from ru)
    exact PySem.P.repr_of_bool (fin _ _ (by cases b <;> exact q))
  · obtain ⟨u, rfl, ru⟩ := r.one
    cases (show u = Value.none from ru)
    exact PySem.P.repr_of_none (fin _ _ q)
  · obtain ⟨u, rfl, k, rfl⟩ := r.one
    exact PySem.P.repr_of_str (fin _ _ q) ht
end
/-! ### the keys of a dict of the module -/
theorem keys_miss {z : Str} : ∀ {ks : List Str} {l : List DictEntry}, Vals (ks.map V.str) (l.map (·.key)) → z ∉ ks → l.find? (·.key.isStr z) = none ∧ l.any (·.refKey) = false
  | [], l, h, _ => by
    cases l with
    | nil => exact ⟨rfl, rfl⟩
    | cons e r => cases h
  | k :: ks, l, h, hz => by
    cases l with
    | nil => cases h
    | cons e r =>
      cases h with
      | cons a b =>
        obtain ⟨t, ht⟩ := (show ∃ t, e.key = Value.str k t from a)
        obtain ⟨h1, h2⟩ := keys_miss b fun m => hz (List.mem_cons_of_mem _ m)
        have nk : k ≠ z := fun e => hz (by rw [e]; exact List.mem_cons_self)
        refine ⟨?_, ?_⟩
        · rw [List.find?_cons_of_neg (by rw [ht]; simp [Value.isStr, nk])]
          exact h1
        · rw [List.any_cons, h2]
          simp [DictEntry.refKey, ht]
theorem ns_miss {K : PySem.W.Frag} {d : Addr} {c : Value} {od : Option Addr} {es : Array DictEntry} {ep : Nat} {sl : Array (Option Value)} {ks : List Str} {z : Str} (hl : K.lookup d = some ⟨c, od, .dict es ep, sl⟩) (hv : Vals (ks.map V.str) (es.toList.map (·.key))) (hz : z ∉ ks) : PySem.W.nsIn K d z = some none := by
  obtain ⟨h1, h2⟩ := keys_miss hv hz
  unfold PySem.W.nsIn
  rw [hl]
  simp only [h1, h2, Bool.false_eq_true, if_false]
end FR
set_option Elab.async false
set_option linter.all false
set_option maxRecDepth 100000
/-! «x in texts» for anything; a list of anything beside the empty list -/
namespace FR
open PySem PySem.Spec PyProof.Rows L2 TL PySem.SeqAt
section
variable {X : Cx}
/-- what «v in the texts ws» gives -/
def InT (K : PySem.W.Frag) (H : Hp) (v : V) (ws : List Str) (r : Bool) : Prop := (flatV v = true ∧ inV v (ws.map V.str) = r) ∨ (∃ d, Dp K H v d ∧ SeqAt.shaped d = true ∧ SeqAt.shaped (.list (ws.map .str)) = true ∧ ((ws.map PyData.str).any fun z => PyData.eqv z d) = r) ∨
  ∃ (a : Addr) (kvs : List (Key × V)), v = .ref a ∧ H a = some (.dK kvs) ∧ false = r
def rInT (K : PySem.W.Frag) : R2 := fun x y H Q => ∃ (p : Addr) (ws : List Str) (r : Bool), y = .ref p ∧ SqL K H p (ws.map V.str) ∧ InT K H x ws r ∧ Q (.bl r) H
theorem op_inT (hu : X.A.units + 65 < cLine) : OpR X (compareOp .In) (rInT X.K) := by
  intro pins s σ H x y v u Q I rx ry h
  obtain ⟨p, ws, r, rfl, hp, ⟨hf, rfl⟩ | ⟨d, hd, s1, s2, rfl⟩ | ⟨a, kvs, rfl, ha, rfl⟩, q⟩ := h
  · exact op_in_seq pins s σ H x _ v u Q I rx ry ⟨p, _, rfl, .inl hp, hf, flat_strs ws, q⟩
  · exact op_inD hu pins s σ H x _ v u Q I rx ry ⟨d, _, hd, .lst hp (dpAll_strs ws), s1, s2, q⟩
  · cases (show v = Value.ref a from rx)
    cases (show u = Value.ref p from ry)
    obtain ⟨_, _, vs, kv, o, es, ep, e, hx, hd, _, _, _⟩ := (show ObjOk X.prog X.w H s.heap a (.dK _) from I.hok _ _ ha)
    obtain ⟨its, rv, hl, _⟩ := I.list hp
    refine in_listAt (fun _ => false) hl.isList (fun z hz => ?_) ⟨.bl false, H, I, ?_, q⟩
    · obtain ⟨x, t, rfl⟩ := vals_strs rv z (by simpa using hz)
      exact eqAt_str_dict x t e hx.1 hd (by show X.A.units + 1 < cLine; omega)
    · show Value.bool _ = Value.bool false
      simp
def rNil (K : PySem.W.Frag) (neg : Bool) : R2 := fun x y H Q => ∃ (p q : Addr) (xs : List V), x = .ref p ∧ y = .ref q ∧ SqL K H p xs ∧ SqL K H q [] ∧ Q (.bl (neg != xs.isEmpty)) H
theorem op_eqNil (hu : X.A.units + 65 < cLine) : OpR X (compareOp .Eq) (rNil X.K false) := by
  intro pins s σ H x y v u Q I rx ry h
  obtain ⟨p, q, xs, rfl, rfl, hp, hq, z⟩ := h
  cases (show v = Value.ref p from rx)
  cases (show u = Value.ref q from ry)
  obtain ⟨its, rv, hl, _⟩ := I.list hp
  obtain ⟨its2, rv2, hl2, _⟩ := I.list hq
  cases rv2
  cases rv with
  | nil => exact SeqAt.eq_listAt (e := fun _ => true) hl.isList hl2.isList rfl (by omega) (fun j h1 _ => absurd h1 (by simp)) ⟨.bl true, H, I, rfl, z⟩
  | cons a b => exact SeqAt.eq_list_lengthsAt hl.isList hl2.isList (by simp) (by omega) ⟨.bl false, H, I, rfl, z⟩
theorem op_neNil (hu : X.A.units + 65 < cLine) : OpR X (compareOp .NotEq) (rNil X.K true) := by
  intro pins s σ H x y v u Q I rx ry h
  obtain ⟨p, q, xs, rfl, rfl, hp, hq, z⟩ := h
  cases (show v = Value.ref p from rx)
  cases (show u = Value.ref q from ry)
  obtain ⟨its, rv, hl, _⟩ := I.list hp
  obtain ⟨its2, rv2, hl2, _⟩ := I.list hq
  cases rv2
  cases rv with
  | nil => exact RcNeAt.lists (e := fun _ => true) hl.isList hl2.isList rfl (by omega) (fun j h1 _ => absurd h1 (by simp)) X.prog X.w _ _ ⟨.bl false, H, I, rfl, z⟩
  | cons a b => exact RcNeAt.lists_lengths hl.isList hl2.isList (by simp) (by omega) X.prog X.w _ _ ⟨.bl true, H, I, rfl, z⟩
end
end FR
set_option Elab.async false
set_option linter.all false
set_option maxRecDepth 100000
set_option maxHeartbeats 2000000
/-! the end of a row whose defs make lambdas, for a promise that knows that no repr is under way -/
namespace FR
open PySem PySem.Spec PyProof.Rows L2 TL LamX
/-- the script (where it is not the module's) and the empty tables -/
def hStart (a : Addr) (o : HO) (own : Bool) (ts : List Addr) : Hp := fun b => if b ∈ ts then some (.tbl #[]) else if b = a ∧ own = true then some o else none
section
variable {a : Addr} {o : HO} {own : Bool} {ts : List Addr}
theorem hStart.tab {b : Addr} (h : b ∈ ts) : hStart a o own ts b = some (.tbl #[]) := if_pos h
theorem hStart.script (h : a ∉ ts) (w : own = true) : hStart a o own ts a = some o := (if_neg h).trans (if_pos ⟨rfl, w⟩)
theorem hStart.what {b : Addr} {u : HO} (h : hStart a o own ts b = some u) : (b ∈ ts ∧ u = .tbl #[]) ∨ (b ∉ ts ∧ b = a ∧ own = true ∧ u = o) := by
  unfold hStart at h
  split at h
  · rename_i m
    exact .inl ⟨m, (Option.some.inj h).symm⟩
  · rename_i m
    split at h
    · rename_i e
      exact .inr ⟨m, e.1, e.2, (Option.some.inj h).symm⟩
    · cases h
end
abbrev oTab : Obj := { cls := .none, data := .fields #[] }
theorem law_callTG {P : Program} {w : World} {K : PySem.W.Frag} {mg mb : Str → Option Value} {k : Nat} {fa a : Addr} {cs : List (Addr × Addr)} {sp : Sp} {s1 : Shared} {vs : List Value} {ns : List Int}
    (KX : K.In s1.heap) (hns : s1.heap.Ns mainGlobals mg) (hb : s1.heap.Ns builtinsNs mb) (hbb : ∀ x : Str, x ≠ "__name__" → mb x = bootBuiltins x) (hlim : s1.heap.NoLimit) (hg : s1.gens = #[])
    (hT : ∀ p ∈ cs, s1.heap.get? p.2 = some oTab) (nT : ∀ p ∈ cs, K.lookup p.2 = none) (C : ∀ p ∈ cs, PySem.W.CodeHd s1.heap p.1 p.2)
    (hbm : ∃ (bm : Addr) (ob : Obj), mg "__builtins__" = some (.ref bm) ∧ bm ≠ builtinsNs ∧ s1.heap.get? bm = some ob ∧ ob.cls = .type "module" ∧ ob.dict = some builtinsNs ∧ ob.data = .plain)
    (ha : s1.heap.get? a = some { cls := .type "list", data := .seq vs.toArray }) (hi : IntsAre vs ns) (hl : ns.length ≤ sizeLine) (hr : Room k callerA)
    (F : ∀ base : Heap, K.In base → base.Ns mainGlobals mg → (∀ p ∈ cs, TabB base mg p.1 p.2) → FnG P w K mg base CX0 k fa sp)
    (hsp : ∀ H : Hp, (∀ p ∈ cs, H p.2 = some (.tbl #[])) → SqL K H a (ns.map V.int) → sp [.ref a] H (fun v _ => v = .bl true) fun _ _ _ => False) :
    codeAny (model P w) callerA (.call (.ref fa) ⟨[.ref a], []⟩) (fun r s' => r = .ok (.ret (.bool true)) ∧ OldK s1.heap s'.heap ∧ s'.os = s1.os ∧ AllBare s'.gens) s1 := by
  have rv := vals_ints hi
  have lv := hi.length
  have isT : ∀ b ∈ cs.map (·.2), s1.heap.get? b = some oTab := fun b m => by
    obtain ⟨p, hp, rfl⟩ := List.mem_map.mp m
    exact hT p hp
  have aT : a ∉ cs.map (·.2) := fun m => by
    have := isT a m
    rw [ha] at this
    cases congrArg Obj.data (Option.some.inj this)
  obtain ⟨own, how⟩ : ∃ own, own = (K.lookup a).isNone := ⟨_, rfl⟩
  obtain ⟨H, hH⟩ : ∃ H, hStart a (.frz { cls := .type "list", data := .seq vs.toArray } (.lst (ns.map V.int))) own (cs.map (·.2)) = H := ⟨_, rfl⟩
  have tabs : ∀ b ∈ cs.map (·.2), H b = some (.tbl #[]) := fun b m => by rw [← hH]; exact hStart.tab m
  have what : ∀ {b : Addr} {u : HO}, H b = some u → (b ∈ cs.map (·.2) ∧ u = .tbl #[]) ∨ (b ∉ cs.map (·.2) ∧ b = a ∧ own = true ∧ u = .frz { cls := .type "list", data := .seq vs.toArray } (.lst (ns.map V.int))) := fun {b u} h => hStart.what (by rw [hH]; exact h)
  have hS : SqL K H a (ns.map V.int) := by
    cases hk : K.lookup a with
    | some o =>
      cases ha.symm.trans (KX a o hk)
      exact .inr ⟨_, vs.toArray, _, hk, rfl, rfl, rfl, by rw [List.size_toArray, lv]; exact hl, by simpa using rv⟩
    | none => exact .inl (.inr ⟨_, by rw [← hH]; exact hStart.script aT (by rw [how, hk]; rfl)⟩)
  have hok : HOk P w H s1.heap := fun b u z => by
    rcases what z with ⟨m, rfl⟩ | ⟨_, rfl, _, rfl⟩
    · exact isT b m
    · exact ⟨ha, by rw [List.length_map]; exact hl, vs, _, rv, ha⟩
  have apart : ∀ {b : Addr} {ob : Obj}, s1.heap.get? b = some ob → (∀ l n, ob.data ≠ .seq l n) → ob.data ≠ .fields #[] → H b = none := fun {b ob} e n1 n2 => by
    cases q : H b with
    | none => rfl
    | some u =>
      rcases what q with ⟨m, _⟩ | ⟨_, rfl, _, _⟩
      · cases (isT b m).symm.trans e
        exact (n2 rfl).elim
      · cases ha.symm.trans e
        exact (n1 _ _ rfl).elim
  have isD : ∀ {b : Addr} {ob : Obj} {es : Array DictEntry} {ep : Nat}, s1.heap.get? b = some ob → ob.data = .dict es ep → H b = none := fun e d => apart e (by rw [d]; exact fun _ _ z => nomatch z) (by rw [d]; exact fun z => nomatch z)
  have nsH : ∀ {b : Addr} {m : Str → Option Value}, s1.heap.Ns b m → (hidT s1.heap H).Ns b m := fun ⟨o, es, ep, e, d, r⟩ => ⟨o, es, ep, hidT_get e (isD e d), d, r⟩
  have KH : K.In (hidT s1.heap H) := fun b o e => hidT_get (KX b o e) (by
    cases q : H b with
    | none => rfl
    | some u =>
      rcases what q with ⟨m, _⟩ | ⟨_, rfl, w0, _⟩
      · obtain ⟨p, hp, rfl⟩ := List.mem_map.mp m
        cases (nT p hp).symm.trans e
      · rw [how, e] at w0
        cases w0)
  have md : Mod K mg (hidT s1.heap H) := ⟨KH, nsH hns, ⟨mb, nsH hb, hbb⟩, hlim.elim fun mc hc => ⟨mc, nsH hc.1, hc.2⟩⟩
  have en : Env0 P w K mg (hidT s1.heap H) callerA [] s1 H := ⟨rfl, md, fun _ _ e => of_hidT e, Nat.le_of_eq (hidT_size ..), True.intro, fun _ hb => (List.not_mem_nil hb).elim, hok, AllBare.of_eq hg⟩
  have tb : ∀ p ∈ cs, TabB (hidT s1.heap H) mg p.1 p.2 := fun p hp => by
    refine ⟨?_, ?_, fun z => ?_⟩
    · obtain ⟨oc, us, file, tf, flags, tg, inF, text, tt, e1, r1, r2, r3, r⟩ := C p hp
      refine ⟨oc, us, file, tf, flags, tg, inF, text, tt, hidT_get e1 (apart e1 (by rw [r2]; exact fun _ _ z => nomatch z) fun z => ?_), r1, r2, r3, r⟩
      rw [r2] at z
      cases z
      simp at r3
    · obtain ⟨bm, ob, b1, b2, b3, b4, b5, b6⟩ := hbm
      refine ⟨bm, ob, b1, b2, fun z => ?_, fun z => ?_, hidT_get b3 (apart b3 (by rw [b6]; exact fun _ _ z => nomatch z) (by rw [b6]; exact fun z => nomatch z)), b4, b5, b6⟩
      · obtain ⟨og, es, ep, e, d, _⟩ := hns
        rw [z] at b3
        cases e.symm.trans b3
        rw [b6] at d
        cases d
      · rw [z] at b3
        cases (hT p hp).symm.trans b3
        cases b6
    · obtain ⟨og, es, ep, e, d, _⟩ := hns
      rw [z] at e
      cases (hT p hp).symm.trans e
      cases d
  refine codeAny_mono (F _ KH (nsH hns) tb callerA [] s1 H [.ref a] [.ref a] _ _ rfl hr en (.cons rfl .nil) (hsp H (fun p hp => tabs _ (List.mem_map.mpr ⟨p, hp, rfl⟩)) hS)) fun r s' h => ?_
  match r, h with
  | .error e, h => exact h.elim
  | .ok .next, h => exact h.elim
  | .ok .brk, h => exact h.elim
  | .ok .cont, h => exact h.elim
  | .ok (.ret u), h =>
    obtain ⟨v, H', os, bare, un, hok', rr, q⟩ := h
    cases (show v = .bl true from q)
    cases (show u = Value.bool true from rr)
    have same : ∀ b ob, b ∉ cs.map (·.2) → s1.heap.get? b = some ob → s'.heap.get? b = some ob := fun b ob nb e => by
      cases z : H b with
      | none => exact un.keep b ob e z (fun y => (List.not_mem_nil y).elim) List.not_mem_nil
      | some u =>
        rcases what z with ⟨m, _⟩ | ⟨_, rfl, _, rfl⟩
        · exact (nb m).elim
        · cases ha.symm.trans e
          exact (hok' b _ (un.frzs b _ _ z)).1
    have more : ∀ p ∈ cs, ∃ ms : Array Value, s'.heap.get? p.2 = some { cls := .none, data := .fields ms } := fun p hp => by
      obtain ⟨ms, z⟩ := un.tbls p.2 #[] (tabs _ (List.mem_map.mpr ⟨p, hp, rfl⟩))
      exact ⟨_, hok' p.2 _ z⟩
    refine ⟨rfl, ⟨fun b ob e => ?_, fun b ob e => ?_⟩, os, bare⟩
    · by_cases m : b ∈ cs.map (·.2)
      · obtain ⟨p, hp, rfl⟩ := List.mem_map.mp m
        obtain ⟨ms, z⟩ := more p hp
        cases (hT p hp).symm.trans e
        exact .inr (.inl ⟨((C p hp).tab (hT p hp)).isCodeTable, rfl, #[], ms, rfl, by rw [Array.empty_append]; exact z⟩)
      · exact .inl (same b ob m e)
    · by_cases m : b ∈ cs.map (·.2)
      · obtain ⟨p, hp, rfl⟩ := List.mem_map.mp m
        obtain ⟨ms, z⟩ := more p hp
        exact ⟨_, z⟩
      · exact ⟨ob, same b ob m e⟩
/-- what is known of the law's promise at the heap h -/
def LawG (l : PySem.W.OpenLaw) (w : World) (K : PySem.W.Frag) (k n : Nat) (mg : Str → Option Value) (fa : Addr) (h : Heap) : Prop :=
  ∃ (cs : List (Addr × Addr)) (sp : Sp), (∀ p ∈ cs, h.get? p.2 = some oTab) ∧ (∀ p ∈ cs, K.lookup p.2 = none) ∧ (∀ p ∈ cs, PySem.W.CodeHd h p.1 p.2) ∧
    (∀ (H : Hp) (a : Addr) (ns : List Int), ns.length ≤ n → (∀ p ∈ cs, H p.2 = some (.tbl #[])) → SqL K H a (ns.map V.int) → sp [.ref a] H (fun v _ => v = .bl true) fun _ _ _ => False) ∧
    ∀ base : Heap, K.In base → base.Ns mainGlobals mg → (∀ p ∈ cs, TabB base mg p.1 p.2) → FnG l.prog w K mg base CX0 k fa sp
theorem walk_ofTG {l : PySem.W.OpenLaw} {n k : Nat} {q : Program} {loose : List Str} {XP : (Str → Option Value) → Heap → Prop} {YP : World → Heap → Prop} {d : DefRec} {K : Params → PySem.W.Frag}
    (hn : l.most = some n) (hn2 : n ≤ sizeLine) (hdf : d.params.defaults = []) (hr : Room k callerA) (hY : ∀ (w : World) (h : Heap), YP w h → (K w.params).In h)
    (F : ∀ (w : World) (mg : Str → Option Value) (fa : Addr) (h : Heap), YP w h → (K w.params).In h → h.Ns mainGlobals mg → mg d.name = some (.ref fa) → LawG l w (K w.params) k n mg fa h) :
    PySem.W.WalkO q loose XP YP l.row.toRowW d [] (fun f vs => PySem.call f vs) := by
  refine Att.attach_call hn hdf fun w s0 s1 mg mb fa o pm cd doc a vs ns G Y ho hd hcd hmg hobj hints hlen hg => ?_
  have KX := hY w _ Y
  obtain ⟨cs, sp, hT, nT, C, hsp, hF⟩ := F w mg fa _ Y KX G.T.g hmg
  exact law_callTG KX G.T.g G.T.b G.T.builtins G.T.nolimit hg hT nT C G.T.bmain hobj hints (Nat.le_trans hlen hn2) hr hF fun H hH hS => hsp H a ns hlen hH hS
/-- a def whose code object is known: it makes lambdas -/
structure FunL (K : PySem.W.Frag) (x qual : Str) (st : Stmt) (f : Addr) (c : Addr) : Prop where
  ex : ∃ (oc : Value) (od : Option Addr) (kV doc pm : Value) (an : Option Addr) (ct : Value) (osl : Array (Option Value)), K.lookup f = some ⟨oc, od, .func (PySem.W.fnOf x qual (defArgs st) (defBody st) (defScope st) .none kV doc pm an (.ref c) ct), osl⟩
  cd : PySem.W.codeIn K (.ref c) qual = true
theorem okGC0 {P : Program} {w : World} {K : PySem.W.Frag} {mg : Str → Option Value} {base : Heap} {k : Nat} {f c : Addr} {sp : Sp} {x qual : Str} {st : Stmt} {fd : FuncData} {N ps : List Str} (L : FunL K x qual st f c) (F : L2.Fun K x qual st f fd) (S : FnScope N ps (defScope st)) (B : Binds K fd ps []) (hlen : ∀ vs H Q E, sp vs H Q E → vs.length = ps.length)
    (hbody : ∀ (A : Around) (outer : List Env) (s : Shared) (H : Hp) (vs : List V) (Q : VK) (E : XK), A.guards = some [] → Room k (A.deeper (envOfC qual (defScope st) s.heap.objs.size f (.ref c))) → sp vs H Q E →
      ∃ t, PSs (cxOf CX0 P w K mg base N qual (defScope st) f (.ref c) A outer s H E).nox (defBody st) t ∧ t { nx := fun _ H' => Q .non H', rt := Q } (start N vs) H) : FnG P w K mg base CX0 (k + 1) f sp := by
  intro A outer s H us vs Q E hg hr e0 r hsp
  obtain ⟨oc, od, kV, doc, pm, an, cdv, ct, osl, rfl, lk, hcd⟩ := F.ex
  obtain ⟨oc', od', kV', doc', pm', an', ct', osl', lk'⟩ := L.ex
  cases lk.symm.trans lk'
  have hv : vs.length = ps.length := hlen _ _ _ _ hsp
  have hu : us.length = ps.length := by rw [← r.length]; exact hv
  have KI : K.In s.heap := e0.mod.kin.keeps fun b o e => (e0.bs b o e).1
  have b0 := B s us KI (by rw [List.append_nil]; exact hu)
  rw [List.append_nil] at b0
  refine StX.run_bnd lk hcd S hr e0 (G := fun xs H2 => xs = vs ∧ H2 = H) (fun A' Ex Q' h => ?_) fun s2 H2 xs ⟨ex, eH⟩ hr' => ?_
  · exact b0 _ _ _ _ (h s H vs us e0 Un.refl rfl (fun _ _ z => z) r hv ⟨rfl, rfl⟩)
  · subst ex eH
    obtain ⟨t, a, b⟩ := hbody A outer s2 _ _ Q E hg hr' hsp
    exact ⟨t, a.nox, b⟩
end FR
set_option Elab.async false
set_option linter.all false
set_option maxRecDepth 100000
/-! a classmethod without arguments -/
namespace ClX
open PySem PySem.Spec PyProof.Rows L2
section
variable {X : Cx} {C g p : Addr} {mc : Value} {m : Str} {o : Expr} {ta : TE} {CX : CXT} {k : Nat} {sp : Sp} {E : XK} {apos pos : Pos}
theorem pe_cmeth0 {pl : Sem Bool} (he : PE X o ta) (r : CRead X.K C mc) (c : CMet X.K C mc m p g) (F : FnR X.prog X.w X.K X.mg X.base CX k g sp) (hr : Room k X.A) (hx : Passes CX X E)
    (ht : eval (.Call (.Attribute o m apos) [] [] pos) X.env = (do
      let ov ← eval o X.env
      standAt apos.atName
      let (f, first) ← holding [ov] (getMethod ov m pl)
      callWith pos f first (backTo pos (starEach [] X.env)) (backToKw pos (keywordEach [] X.env))) := by rfl) :
    PE X (.Call (.Attribute o m apos) [] [] pos) (tCMeth C sp E ta tNil) := by
  refine ⟨fun pins s σ H Q I h => ?_⟩
  refine PySem.W.methodCall_KW (pl := pl) (thn (he.run pins s σ H _ I h) fun u s1 ⟨x, H1, I1, rx, ex, q⟩ => ?_) ht
  subst ex
  obtain rfl : u = Value.ref C := rx
  refine getmethcm_ok I1 r c fun s2 I2 => ?_
  exact PySem.W.callWith_M0 (first := []) ⟨pin_at I2, I2.kIn⟩ c.fi (run_cm F hr hx I2 .nil q)
end
end ClX
set_option Elab.async false
set_option linter.all false
set_option maxRecDepth 100000
set_option maxHeartbeats 1000000
/-! zip of a tuple and a list (any two iterators that are asked by nextOf) -/
namespace FR
open PySem
open PySem.Sem (wp)
/-- an iterator at it over what stands at l, asked by nextOf -/
structure Nx (prog : Program) (w : World) (it l : Addr) (xs : Array Value) (St : Nat → Heap → Prop) : Prop where
  one : ∀ (A : Around) (E Q : Value → Shared → Prop) (s : Shared) (k : Nat) (x : Value), St k s.heap → xs[k]? = some x → (∀ g, St (k + 1) g → Heap.SameBut it s.heap g → Q x { s with heap := g }) → wpAny (model prog w) A (Builtin.SmallTypes.nextOf (.ref it)) Q E s
  fin : ∀ (A : Around) (E Q : Value → Shared → Prop) (s : Shared) (k : Nat), A.handled = none → St k s.heap → xs[k]? = none → (∀ g e, Heap.ExtBut it s.heap g → (∃ o, g.get? e = some o ∧ o.cls = .type "StopIteration") → E (.ref e) { s with heap := g }) →
    wpAny (model prog w) A (Builtin.SmallTypes.nextOf (.ref it)) Q E s
  frame : ∀ k h g b, St k h → Heap.ExtBut b h g → it ≠ b → l ≠ b → St k g
section
variable {prog : Program} {w : World}
theorem nx_tup {it l : Addr} {xs : Array Value} (ne : l ≠ it) : Nx prog w it l xs (fun k h => h.IsTupleIter it l k ∧ h.IsTuple l xs) where
  one := fun A E Q s k x st e q => RZ.nextOf_tuple_item st.1 st.2 e fun g z sb => q g ⟨z, st.2.extBut sb.extBut ne⟩ sb
  fin := fun A E Q s k hh st e q => RZ.nextOf_tuple_end hh st.1 st.2 e q
  frame := fun k h g b st x n1 n2 => ⟨st.1.extBut x n1, st.2.extBut x n2⟩
theorem nx_lst {it l : Addr} {xs : Array Value} (ne : l ≠ it) : Nx prog w it l xs (fun k h => h.IsListIter it l k ∧ h.IsList l xs) where
  one := fun A E Q s k x st e q => wpAny_nextOf_list_item st.1 st.2 e fun g z sb => q g ⟨z, st.2.extBut sb.extBut ne⟩ sb
  fin := fun A E Q s k hh st e q => wpAny_nextOf_list_end hh st.1 st.2 e q
  frame := fun k h g b st x n1 n2 => ⟨st.1.extBut x n1, st.2.extBut x n2⟩
/-- a zip that stands between two turns -/
structure ZAt (h : Heap) (z TI TO i1 i2 : Addr) (f : Value) (a b : Value) : Prop where
  zp : IsZip h z TI TO f
  ti : IsPair h TI (.ref i1) (.ref i2)
  to : IsPair h TO a b
variable {A : Around} {E : Value → Shared → Prop} {s : Shared} {z TI TO i1 i2 l1 l2 : Addr} {k1 k2 : Nat} {xs ys : Array Value} {x y a b : Value} {S1 S2 : Nat → Heap → Prop}
theorem zg_item {Q : Value → Shared → Prop} (D : ZipApart z TI TO i1 i2 l1 l2) (N1 : Nx prog w i1 l1 xs S1) (N2 : Nx prog w i2 l2 ys S2) (Z : ZAt s.heap z TI TO i1 i2 .none a b)
    (h1 : S1 k1 s.heap) (h2 : S2 k2 s.heap) (ex : xs[k1]? = some x) (ey : ys[k2]? = some y) (big : z < s.heap.objs.size ∧ l1 < s.heap.objs.size ∧ l2 < s.heap.objs.size ∧ i1 < s.heap.objs.size ∧ i2 < s.heap.objs.size)
    (q : ∀ g, ZAt g z TI TO i1 i2 (rawInt s.heap.objs.size) x y → S1 (k1 + 1) g → S2 (k2 + 1) g → IsPair g s.heap.objs.size x y →
      (∀ c o, c ≠ z → c ≠ TO → c ≠ i1 → c ≠ i2 → s.heap.get? c = some o → g.get? c = some o) → Q (.ref s.heap.objs.size) { s with heap := g }) :
    wpAny (model prog w) A (Builtin.«zip.__next__» ⟨[.ref z], []⟩) (fun fin s' => ∃ v, fin = .done (.ret v) ∧ Q v s') E s := by
  obtain ⟨zp, ti, to⟩ := Z
  obtain ⟨bz, bl1, bl2, bi1, bi2⟩ := big
  show wpAny _ _ (field (.ref z) 2 >>= _) _ _ _; refine wpAny_bind (wpAny_field zp rfl (x := .bool false) rfl ?_)
  show wpAny _ _ (field (.ref z) 3 >>= _) _ _ _; refine wpAny_bind (wpAny_field zp rfl (x := .ref TI) rfl ?_)
  refine wpAny_bind (wpAny_seqItems ti rfl ?_)
  show wpAny _ _ (Builtin.SmallTypes.ownedTupleIsFree (.ref z) >>= _) _ _ _; refine wpAny_bind ?_
  unfold Builtin.SmallTypes.ownedTupleIsFree; refine wpAny_bind (wpAny_field zp rfl (x := .none) rfl (wpAny_pure ?_))
  simp only [if_true]; refine wpAny_bind (wpAny_rule ?_)
  refine wpAny_bind (wpAny_field zp rfl (x := .ref TO) rfl ?_); refine wpAny_bind (wpAny_setField_rec zp (by simp) fun g1 z1 s1 => ?_)
  have z1 : IsZip g1 z TI TO .ellipsis := z1
  refine wpAny_bind ?_; simp only [List.zipIdx_cons, List.zipIdx_nil, List.forIn_cons, List.forIn_nil]
  refine wpAny_bind (wpAny_bind (wpAny_onRaise ?_)); show wpAny _ _ (Builtin.SmallTypes.nextOf (.ref i1) >>= _) _ _ _
  refine wpAny_bind (N1.one _ _ _ _ k1 x (N1.frame _ _ _ _ h1 s1.extBut D.i1z D.l1z) ex fun g2 t1 s2 => wpAny_pure ?_)
  have to2 : IsPair g2 TO a b := s2.extBut _ _ D.TOi1 (s1.extBut _ _ D.TOz to)
  have r2 := N2.frame _ _ _ _ (N2.frame _ _ _ _ h2 s1.extBut D.i2z D.l2z) s2.extBut D.i12.symm D.l2i1
  refine wpAny_bind (wpAny_seqItems to2 rfl ?_); refine wpAny_bind (wpAny_updateSeq_pair to2 fun g3 to3 s3 => ?_)
  have to3 : IsPair g3 TO x b := to3
  refine wpAny_bind (wpAny_letGo (wpAny_pure ?_)); refine wpAny_bind (wpAny_bind (wpAny_onRaise ?_))
  show wpAny _ _ (Builtin.SmallTypes.nextOf (.ref i2) >>= _) _ _ _
  refine wpAny_bind (N2.one _ _ _ _ k2 y (N2.frame _ _ _ _ r2 s3.extBut D.TOi2.symm D.l2TO) ey fun g4 t2 s4 => wpAny_pure ?_)
  have to4 : IsPair g4 TO x b := s4.extBut _ _ D.TOi2 to3
  refine wpAny_bind (wpAny_seqItems to4 rfl ?_); refine wpAny_bind (wpAny_updateSeq_pair to4 fun g5 to5 s5 => ?_)
  have to5 : IsPair g5 TO x y := to5
  refine wpAny_bind (wpAny_letGo (wpAny_pure (wpAny_pure ?_))); refine wpAny_bind (wpAny_seqItems to5 rfl ?_); refine wpAny_bind (wpAny_newTuple ?_)
  have sz : g5.objs.size = s.heap.objs.size := by rw [s5.1, s4.1, s3.1, s2.1, s1.1]
  have z5 : IsZip g5 z TI TO .ellipsis := s5.extBut _ _ D.TOz.symm (s4.extBut _ _ D.i2z.symm (s3.extBut _ _ D.TOz.symm (s2.extBut _ _ D.i1z.symm z1)))
  have k5 : ∀ c o, c ≠ z → c ≠ TO → c ≠ i1 → c ≠ i2 → s.heap.get? c = some o → g5.get? c = some o := fun c o n1 n2 n3 n4 e =>
    s5.extBut _ _ n2 (s4.extBut _ _ n4 (s3.extBut _ _ n2 (s2.extBut _ _ n3 (s1.extBut _ _ n1 e))))
  have u1 : S1 (k1 + 1) g5 := N1.frame _ _ _ _ (N1.frame _ _ _ _ (N1.frame _ _ _ _ t1 s3.extBut D.TOi1.symm D.l1TO) s4.extBut D.i12 D.l1i2) s5.extBut D.TOi1.symm D.l1TO
  have u2 : S2 (k2 + 1) g5 := N2.frame _ _ _ _ t2 s5.extBut D.TOi2.symm D.l2TO
  show wpAny _ _ (Builtin.SmallTypes.ownedTupleHandOut (.ref z) (.ref g5.objs.size) >>= _) _ _ _
  refine wpAny_bind ?_; unfold Builtin.SmallTypes.ownedTupleHandOut
  have z6 : IsZip (g5.push { cls := .type "tuple", data := .seq #[x, y] }) z TI TO .ellipsis := Heap.get?_push_of_some _ z5
  refine wpAny_bind (wpAny_setField_rec z6 (by simp) fun g7 z7 s7 => ?_)
  have z7 : IsZip g7 z TI TO (rawInt g5.objs.size) := z7
  refine wpAny_setField_rec z7 (by simp) fun g8 z8 s8 => ?_
  have z8 : IsZip g8 z TI TO (rawInt g5.objs.size) := z8
  have up : ∀ c o, c ≠ z → g5.get? c = some o → g8.get? c = some o := fun c o n e => s8.extBut _ _ n (s7.extBut _ _ n (Heap.get?_push_of_some _ e))
  have zz : g5.objs.size ≠ z := Nat.ne_of_gt (by rw [sz]; exact bz)
  have m1 : i1 ≠ g5.objs.size := Nat.ne_of_lt (by rw [sz]; exact bi1)
  have m2 : i2 ≠ g5.objs.size := Nat.ne_of_lt (by rw [sz]; exact bi2)
  have m3 : l1 ≠ g5.objs.size := Nat.ne_of_lt (by rw [sz]; exact bl1)
  have m4 : l2 ≠ g5.objs.size := Nat.ne_of_lt (by rw [sz]; exact bl2)
  have hT : IsPair g8 g5.objs.size x y := s8.extBut _ _ zz (s7.extBut _ _ zz (Heap.get?_push_size _ rfl))
  have p6 : Heap.ExtBut g5.objs.size g5 (g5.push { cls := .type "tuple", data := .seq #[x, y] }) := fun c o _ e => Heap.get?_push_of_some _ e
  have fr1 : S1 (k1 + 1) g8 := N1.frame _ _ _ _ (N1.frame _ _ _ _ (N1.frame _ _ _ _ u1 p6 m1 m3) s7.extBut D.i1z D.l1z) s8.extBut D.i1z D.l1z
  have fr2 : S2 (k2 + 1) g8 := N2.frame _ _ _ _ (N2.frame _ _ _ _ (N2.frame _ _ _ _ u2 p6 m2 m4) s7.extBut D.i2z D.l2z) s8.extBut D.i2z D.l2z
  rw [sz] at z8 hT
  refine wpAny_pure ⟨_, rfl, ?_⟩
  show Q (.ref g5.objs.size) _
  rw [sz]
  have ti5 : IsPair g5 TI (.ref i1) (.ref i2) := k5 _ _ D.TIz D.TITO D.TIi1 D.TIi2 ti
  exact q g8 ⟨z8, up _ _ D.TIz ti5, up _ _ D.TOz to5⟩ fr1 fr2 hT fun c o n1 n2 n3 n4 e => up c o n1 (k5 c o n1 n2 n3 n4 e)
theorem zg_end {Q : Fin → Shared → Prop} (hh : A.handled = none) (D : ZipApart z TI TO i1 i2 l1 l2) (N1 : Nx prog w i1 l1 xs S1) (N2 : Nx prog w i2 l2 ys S2) (Z : ZAt s.heap z TI TO i1 i2 .none a b)
    (h1 : S1 k1 s.heap) (h2 : S2 k2 s.heap) (en : xs[k1]? = none ∨ ys[k2]? = none)
    (q : ∀ g e, (∀ c o, c ≠ z → c ≠ TO → c ≠ i1 → c ≠ i2 → s.heap.get? c = some o → g.get? c = some o) → (∃ o, g.get? e = some o ∧ o.cls = .type "StopIteration") → E (.ref e) { s with heap := g }) :
    wpAny (model prog w) A (Builtin.«zip.__next__» ⟨[.ref z], []⟩) Q E s := by
  obtain ⟨zp, ti, to⟩ := Z
  show wpAny _ _ (field (.ref z) 2 >>= _) _ _ _; refine wpAny_bind (wpAny_field zp rfl (x := .bool false) rfl ?_)
  show wpAny _ _ (field (.ref z) 3 >>= _) _ _ _; refine wpAny_bind (wpAny_field zp rfl (x := .ref TI) rfl ?_)
  refine wpAny_bind (wpAny_seqItems ti rfl ?_)
  show wpAny _ _ (Builtin.SmallTypes.ownedTupleIsFree (.ref z) >>= _) _ _ _; refine wpAny_bind ?_
  unfold Builtin.SmallTypes.ownedTupleIsFree; refine wpAny_bind (wpAny_field zp rfl (x := .none) rfl (wpAny_pure ?_))
  simp only [if_true]; refine wpAny_bind (wpAny_rule ?_)
  refine wpAny_bind (wpAny_field zp rfl (x := .ref TO) rfl ?_); refine wpAny_bind (wpAny_setField_rec zp (by simp) fun g1 z1 s1 => ?_)
  have z1 : IsZip g1 z TI TO .ellipsis := z1
  refine wpAny_bind ?_; simp only [List.zipIdx_cons, List.zipIdx_nil, List.forIn_cons, List.forIn_nil]
  refine wpAny_bind (wpAny_bind (wpAny_onRaise ?_)); show wpAny _ _ (Builtin.SmallTypes.nextOf (.ref i1) >>= _) _ _ _
  have f1 := N1.frame _ _ _ _ h1 s1.extBut D.i1z D.l1z
  cases ex : xs[k1]? with
  | none =>
    refine wpAny_bind (N1.fin _ _ _ _ k1 hh f1 ex fun g2 e s2 he => ?_)
    obtain ⟨oe, e1, e2⟩ := he
    have z2 : IsZip g2 z TI TO .ellipsis := s2 _ _ D.i1z.symm z1
    have ne : e ≠ z := fun h => by rw [h, z2] at e1; cases e1; simp at e2
    refine wpAny_setField_rec z2 (by simp) fun g3 _ s3 => q g3 e (fun c o n1 _ n3 _ h => s3.extBut _ _ n1 (s2 _ _ n3 (s1.extBut _ _ n1 h))) ⟨oe, s3.extBut _ _ ne e1, e2⟩
  | some x =>
    have ey : ys[k2]? = none := by rcases en with h | h; rw [ex] at h; cases h; exact h
    refine wpAny_bind (N1.one _ _ _ _ k1 x f1 ex fun g2 t1 s2 => wpAny_pure ?_)
    have to2 : IsPair g2 TO a b := s2.extBut _ _ D.TOi1 (s1.extBut _ _ D.TOz to)
    have r2 := N2.frame _ _ _ _ (N2.frame _ _ _ _ h2 s1.extBut D.i2z D.l2z) s2.extBut D.i12.symm D.l2i1
    refine wpAny_bind (wpAny_seqItems to2 rfl ?_); refine wpAny_bind (wpAny_updateSeq_pair to2 fun g3 to3 s3 => ?_)
    refine wpAny_bind (wpAny_letGo (wpAny_pure ?_)); refine wpAny_bind (wpAny_bind (wpAny_onRaise ?_))
    show wpAny _ _ (Builtin.SmallTypes.nextOf (.ref i2) >>= _) _ _ _
    refine wpAny_bind (N2.fin _ _ _ _ k2 hh (N2.frame _ _ _ _ r2 s3.extBut D.TOi2.symm D.l2TO) ey fun g4 e s4 he => ?_)
    obtain ⟨oe, e1, e2⟩ := he
    have z4 : IsZip g4 z TI TO .ellipsis := s4 _ _ D.i2z.symm (s3.extBut _ _ D.TOz.symm (s2.extBut _ _ D.i1z.symm z1))
    have ne : e ≠ z := fun h => by rw [h, z4] at e1; cases e1; simp at e2
    refine wpAny_setField_rec z4 (by simp) fun g5 _ s5 => q g5 e (fun c o n1 n2 n3 n4 h => s5.extBut _ _ n1 (s4 _ _ n4 (s3.extBut _ _ n2 (s2.extBut _ _ n3 (s1.extBut _ _ n1 h))))) ⟨oe, s5.extBut _ _ ne e1, e2⟩
theorem zg_nx {Q : Option Value → Shared → Prop} (D : ZipApart z TI TO i1 i2 l1 l2) (N1 : Nx prog w i1 l1 xs S1) (N2 : Nx prog w i2 l2 ys S2) (Z : ZAt s.heap z TI TO i1 i2 .none a b)
    (h1 : S1 k1 s.heap) (h2 : S2 k2 s.heap) (ex : xs[k1]? = some x) (ey : ys[k2]? = some y) (big : z < s.heap.objs.size ∧ l1 < s.heap.objs.size ∧ l2 < s.heap.objs.size ∧ i1 < s.heap.objs.size ∧ i2 < s.heap.objs.size)
    (q : ∀ g, ZAt g z TI TO i1 i2 (rawInt s.heap.objs.size) x y → S1 (k1 + 1) g → S2 (k2 + 1) g → IsPair g s.heap.objs.size x y →
      (∀ c o, c ≠ z → c ≠ TO → c ≠ i1 → c ≠ i2 → s.heap.get? c = some o → g.get? c = some o) → Q (some (.ref s.heap.objs.size)) { s with heap := g }) :
    wpAny (model prog w) A (pyNext (.ref z)) Q E s := by
  have hT : s.TypeIs (.ref z) "zip" := ⟨_, Z.zp, rfl⟩
  unfold pyNext
  refine wpAny_bind (wpAny_attempt (wpAny_callSpecial?_slot (name := Str.ofString "__next__") hT F.slot_zip_next ?_))
  exact wpAny_call_entry F.slot_zip_next hT F.entry_zip_next (zg_item D N1 N2 Z h1 h2 ex ey big fun g c1 c2 c3 c4 c5 => wpAny_pure (q g c1 c2 c3 c4 c5)) (F.args_zip_next_1 _)
theorem zg_stop {Q : Option Value → Shared → Prop} (hh : A.handled = none) (D : ZipApart z TI TO i1 i2 l1 l2) (N1 : Nx prog w i1 l1 xs S1) (N2 : Nx prog w i2 l2 ys S2) (Z : ZAt s.heap z TI TO i1 i2 .none a b)
    (h1 : S1 k1 s.heap) (h2 : S2 k2 s.heap) (en : xs[k1]? = none ∨ ys[k2]? = none)
    (q : ∀ g, (∀ c o, c ≠ z → c ≠ TO → c ≠ i1 → c ≠ i2 → s.heap.get? c = some o → g.get? c = some o) → Q none { s with heap := g }) : wpAny (model prog w) A (pyNext (.ref z)) Q E s := by
  have hT : s.TypeIs (.ref z) "zip" := ⟨_, Z.zp, rfl⟩
  unfold pyNext
  refine wpAny_bind (wpAny_attempt (wpAny_callSpecial?_slot (name := Str.ofString "__next__") hT F.slot_zip_next ?_))
  refine wpAny_call_entry F.slot_zip_next hT F.entry_zip_next (zg_end hh D N1 N2 Z h1 h2 en fun g e hk he => ?_) (F.args_zip_next_1 _)
  obtain ⟨o, ho, hc⟩ := he
  refine wpAny_bind (wpAny_isInstance (T := "StopIteration") (b := true) ⟨o, ho, hc⟩ isSubtype_stop ?_)
  exact wpAny_pure (q _ hk)
end
abbrev zm1 (h : Heap) (a : Addr) : Heap := h.push { cls := .type "tuple_iterator", data := .fields #[.ref a, .int 0 0] }
abbrev zm2 (h : Heap) (a b : Addr) : Heap := (zm1 h a).push { cls := .type "list_iterator", data := .fields #[.ref b, .int 0 0] }
abbrev zm3 (h : Heap) (a b : Addr) : Heap := (zm2 h a b).push { cls := .type "tuple", data := .seq #[.ref h.objs.size, .ref (zm1 h a).objs.size] }
abbrev zm4 (h : Heap) (a b : Addr) : Heap := (zm3 h a b).push { cls := .type "tuple", data := .seq #[.none, .none] }
abbrev zm5 (h : Heap) (a b : Addr) : Heap := (zm4 h a b).push { cls := .type "zip", data := .fields #[.none, .bool false, .bool false, .ref (zm2 h a b).objs.size, .ref (zm3 h a b).objs.size] }
theorem meets_zm (a b : Addr) (xs ys : Array Value) :
    Meets (Builtin.«zip.__new__» ⟨[.type "zip", .ref a, .ref b], []⟩) (fun _ R s => s.heap.IsTuple a xs ∧ s.heap.IsList b ys ∧ R (.ok (.ret (.ref (zm4 s.heap a b).objs.size))) { s with heap := zm5 s.heap a b }) :=
  .of_wp fun prog w A R s h => by
    obtain ⟨hp, g, d, tk, os⟩ := s; obtain ⟨m1, m2, h⟩ := h
    have hsub := sub_zip
    have hA : Heap.IsTuple (Shared.heap ⟨hp, g, d, tk, os⟩) a xs := m1
    have hB : Heap.IsList (Shared.heap ⟨hp.push { cls := .type "tuple_iterator", data := .fields #[.ref a, .int 0 0] }, g, d, tk, os⟩) b ys := Heap.IsList.push m2 _
    wp_walk using wpAny_pyIter_tuple hA, wpAny_pyIter_list hB
    exact ⟨_, rfl, h⟩
section
variable {prog : Program} {w : World} {A : Around} {E : Value → Shared → Prop} {s : Shared}
theorem call_zm {a b : Addr} {xs ys : Array Value} {Q : Value → Shared → Prop} (m1 : s.heap.IsTuple a xs) (m2 : s.heap.IsList b ys)
    (h : ∀ g, ZAt g (s.heap.objs.size + 4) (s.heap.objs.size + 2) (s.heap.objs.size + 3) s.heap.objs.size (s.heap.objs.size + 1) .none .none .none → g.IsTupleIter s.heap.objs.size a 0 → g.IsListIter (s.heap.objs.size + 1) b 0 →
      (∀ c o, s.heap.get? c = some o → g.get? c = some o) → Q (.ref (s.heap.objs.size + 4)) { s with heap := g }) :
    wpAny (model prog w) A (call (.type "zip") [.ref a, .ref b]) Q E s := by
  refine callType_new F.called_zip (by decide) (F.typeCall_zip_2 _ _) (F.newCall_zip_2 _ _) (fun obj => F.args_object_init_3 obj _ _) F.entry_zip_new (meets_zm a b xs ys) ⟨m1, m2, ?_⟩
  have n1 : (zm1 s.heap a).objs.size = s.heap.objs.size + 1 := Heap.size_push ..
  have n2 : (zm2 s.heap a b).objs.size = s.heap.objs.size + 2 := by rw [Heap.size_push, n1]
  have n3 : (zm3 s.heap a b).objs.size = s.heap.objs.size + 3 := by rw [Heap.size_push, n2]
  have n4 : (zm4 s.heap a b).objs.size = s.heap.objs.size + 4 := by rw [Heap.size_push, n3]
  have e5 : (zm5 s.heap a b).get? (zm4 s.heap a b).objs.size = some _ := Heap.get?_push_size _ rfl
  have e4 : (zm5 s.heap a b).get? (zm3 s.heap a b).objs.size = some _ := Heap.get?_push_of_some _ (Heap.get?_push_size _ rfl)
  have e3 : (zm5 s.heap a b).get? (zm2 s.heap a b).objs.size = some _ := Heap.get?_push_of_some _ (Heap.get?_push_of_some _ (Heap.get?_push_size _ rfl))
  have e2 : (zm5 s.heap a b).get? (zm1 s.heap a).objs.size = some _ := Heap.get?_push_of_some _ (Heap.get?_push_of_some _ (Heap.get?_push_of_some _ (Heap.get?_push_size _ rfl)))
  have e1 : (zm5 s.heap a b).get? s.heap.objs.size = some _ := Heap.get?_push_of_some _ (Heap.get?_push_of_some _ (Heap.get?_push_of_some _ (Heap.get?_push_of_some _ (Heap.get?_push_size _ rfl))))
  show _ ∧ _
  rw [n2, n3, n4] at e5
  rw [n1, n2] at e3
  rw [n3] at e4
  rw [n1] at e2
  rw [n4]
  exact ⟨⟨_, e5, rfl⟩, h _ ⟨e5, e3, e4⟩ ⟨_, e1, rfl, rfl⟩ ⟨_, e2, rfl, rfl⟩ fun c o e => Heap.get?_push_of_some _ (Heap.get?_push_of_some _ (Heap.get?_push_of_some _ (Heap.get?_push_of_some _ (Heap.get?_push_of_some _ e))))⟩
end
open PySem.Spec PyProof.Rows L2
/-- zip of the tuple at a and the list at b -/
def Itm (K : PySem.W.Frag) (a b : Addr) : It :=
  ⟨fun i H => ∃ (xs ys : List V) (x y : V), SqT K H a xs ∧ SqL K H b ys ∧ xs[i]? = some x ∧ ys[i]? = some y,
    fun i H v H' => ∃ T x y, v = .ref T ∧ H T = none ∧ H' = upd H T (.tup [x, y]) ∧ (∀ xs, SqT K H a xs → xs[i]? = some x) ∧ ∀ ys, SqL K H b ys → ys[i]? = some y,
    fun i H => ∃ xs ys : List V, SqT K H a xs ∧ SqL K H b ys ∧ (xs.length ≤ i ∨ ys.length ≤ i)⟩
theorem turn_zm {P : Program} {w : World} {K : PySem.W.Frag} {elts : List Expr} {kk : Nat} {tpos : Pos} {a b z TI TO i1 i2 : Addr} (D : ZipApart z TI TO i1 i2 a b) :
    Turn P w K (.Tuple elts kk tpos) (Itm K a b) [z, TI, TO, i1, i2] z (fun i h => (∃ x y, ZAt h z TI TO i1 i2 .none x y) ∧ h.IsTupleIter i1 a i ∧ h.IsListIter i2 b i) where
  mem := by simp
  obj := fun i h st c hc => by
    obtain ⟨⟨x, y, zp, ti, to⟩, ⟨o1, e1, _, d1⟩, ⟨o2, e2, _, d2⟩⟩ := st
    rcases (by simpa using hc : c = z ∨ c = TI ∨ c = TO ∨ c = i1 ∨ c = i2) with r | r | r | r | r
    · rw [r]; exact ⟨_, zp, fun v q => nomatch q⟩
    · rw [r]; exact ⟨_, ti, fun v q => nomatch q⟩
    · rw [r]; exact ⟨_, to, fun v q => nomatch q⟩
    · rw [r]; exact ⟨o1, e1, fun v q => by rw [d1] at q; cases q⟩
    · rw [r]; exact ⟨o2, e2, fun v q => by rw [d2] at q; cases q⟩
  keep := fun i h g st k => by
    obtain ⟨⟨x, y, zp, ti, to⟩, h1, h2⟩ := st
    exact ⟨⟨x, y, k z (by simp) _ zp, k TI (by simp) _ ti, k TO (by simp) _ to⟩, h1.at fun o q => k i1 (by simp) o q, h2.at fun o q => k i2 (by simp) o q⟩
  item := by
    intro X hP hw hK hc i pins s σ H E I hf st hg
    subst hP hw hK
    obtain ⟨⟨x0, y0, Z⟩, h1, h2⟩ := st
    obtain ⟨xs, ys, x, y, sx, sy, ex, ey⟩ := hg
    obtain ⟨its, rv, p, _⟩ := I.tuple sx
    obtain ⟨its2, rv2, p2, _⟩ := I.list sy
    obtain ⟨u, hu, ru⟩ := rv.get ex
    obtain ⟨u2, hu2, ru2⟩ := rv2.get ey
    have bz : z < s.heap.objs.size := Heap.lt_size Z.zp
    have b1 : i1 < s.heap.objs.size := by obtain ⟨_, e, _⟩ := h1; exact Heap.lt_size e
    have b2 : i2 < s.heap.objs.size := by obtain ⟨_, e, _⟩ := h2; exact Heap.lt_size e
    have ba : a < s.heap.objs.size := by obtain ⟨_, e, _⟩ := id p; exact Heap.lt_size e
    have hin : ∀ c ∈ [z, TI, TO, i1, i2], c < s.heap.objs.size := fun c hcm => by
      rcases (by simpa using hcm : c = z ∨ c = TI ∨ c = TO ∨ c = i1 ∨ c = i2) with r | r | r | r | r
      · rw [r]; exact bz
      · rw [r]; exact Heap.lt_size Z.ti
      · rw [r]; exact Heap.lt_size Z.to
      · rw [r]; exact b1
      · rw [r]; exact b2
    refine zg_nx D (nx_tup D.l1i1) (nx_lst D.l2i2) Z ⟨h1, p⟩ ⟨h2, p2.isList⟩ (x := u) (y := u2) (by simpa using hu) (by simpa using hu2) ⟨bz, ba, p2.lt, b1, b2⟩ fun g Z' t1 t2 hT hk => ?_
    refine ⟨_, rfl, wpAny_letOwnedTupleGo_zip (s := { s with heap := g }) Z'.zp fun g2 z2 sb => ?_⟩
    have hT2 : IsPair g2 s.heap.objs.size u u2 := (sb.2 _ (Nat.ne_of_gt bz)).trans hT
    have new : ObjOk X.prog X.w (upd H s.heap.objs.size (.tup [x, y])) g2 s.heap.objs.size (.tup [x, y]) := ⟨by show 2 ≤ sizeLine; decide, [u, u2], .cons ru (.cons ru2 .nil), ⟨_, hT2, rfl, _, rfl⟩⟩
    have old : ∀ c o, c ∉ [z, TI, TO, i1, i2] → s.heap.get? c = some o → g2.get? c = some o := fun c o hb q => by
      simp only [List.mem_cons, List.not_mem_nil, or_false, not_or] at hb
      exact (sb.2 c hb.1).trans (hk c o hb.1 hb.2.2.1 hb.2.2.2.1 hb.2.2.2.2 q)
    refine ⟨.ref s.heap.objs.size, _, I.turnedNew (t' := s.toks) (ch := [z, TI, TO, i1, i2]) old hf (Nat.le_refl _) new, rfl, ⟨_, x, y, rfl, I.hok.fresh (Nat.le_refl _), rfl, fun l hl => ?_, fun l hl => ?_⟩, ⟨⟨u, u2, z2, (sb.2 _ D.TIz).trans Z'.ti, (sb.2 _ D.TOz).trans Z'.to⟩, ?_, ?_⟩, fun c hcm => ?_⟩
    · rw [I.tuple_inj hl sx]; exact ex
    · rw [I.list_inj hl sy]; exact ey
    · exact t1.1.at fun o q => (sb.2 _ D.i1z).trans q
    · exact t2.1.at fun o q => (sb.2 _ D.i2z).trans q
    · rw [upd_ne (Nat.ne_of_lt (hin c hcm))]
      exact (hf c hcm).1
  done := by
    intro X hP hw hK hc i pins s σ H E I hf st hg
    subst hP hw hK
    obtain ⟨⟨x0, y0, Z⟩, h1, h2⟩ := st
    obtain ⟨xs, ys, sx, sy, en⟩ := hg
    obtain ⟨its, rv, p, _⟩ := I.tuple sx
    obtain ⟨its2, rv2, p2, _⟩ := I.list sy
    have l1 := rv.length
    have l2 := rv2.length
    have he : its.toArray[i]? = none ∨ its2.toArray[i]? = none := en.imp (fun q => by simp; omega) (fun q => by simp; omega)
    refine zg_stop (I.ok.hd hc) D (nx_tup D.l1i1) (nx_lst D.l2i2) Z ⟨h1, p⟩ ⟨h2, p2.isList⟩ he fun g hk => ⟨rfl, I.turnedL (t' := s.toks) (ch := [z, TI, TO, i1, i2]) (fun c o hb q => ?_) hf⟩
    simp only [List.mem_cons, List.not_mem_nil, or_false, not_or] at hb
    exact hk c o hb.1 hb.2.2.1 hb.2.2.2.1 hb.2.2.2.2 q
  self := fun A i s Q E st h => by
    obtain ⟨⟨_, _, Z⟩, _⟩ := st
    exact wpAny_pyIter_zip Z.zp h
def iZm (K : PySem.W.Frag) (ta : TA) : L2.TI := fun σ H R => ta σ H fun vs H1 => ∃ a b xs ys, vs = [.ref a, .ref b] ∧ SqT K H1 a xs ∧ SqL K H1 b ys ∧ R (Itm K a b) H1
theorem pi_zm {X : Cx} {e e2 : Expr} {ta : TA} {p pos tpos : Pos} {elts : List Expr} {kk : Nat} (hg : Gl X "zip") (hm : X.mg "zip" = none) (ha : PA X [e, e2] ta)
    (hs : starEach [e, e2] X.env = (false, eval e X.env) :: starEach [e2] X.env := by rfl) (hpl : (backTo pos (starEach [e2] X.env)).any (·.1) = false := by rfl) : PI X (.Tuple elts kk tpos) (.Call (.Name "zip" p) [e, e2] [] pos) (iZm X.K ta) := by
  refine ⟨fun pins s σ H R I h => Call_ (ld_blt I hg hm PyProof.Rows.boot_zip (PyProof.Rows.callWith_type1 (thn (ha.run pos pins s σ H _ I h) fun us s1 hh => ?_) hs hpl))⟩
  obtain ⟨vs, H1, I1, r1, a, b, xs, ys, rfl, sx, sy, q⟩ := hh
  match us, r1 with
  | [_, _], .cons r (.cons r' .nil) =>
    cases r
    cases r'
    obtain ⟨its, rv, p1, _⟩ := I1.tuple sx
    obtain ⟨its2, rv2, p2, _⟩ := I1.list sy
    have la : a < s1.heap.objs.size := by obtain ⟨_, e, _⟩ := id p1; exact Heap.lt_size e
    refine call_zm (show s1.heap.IsTuple a its.toArray from p1) p2.isList fun g Z t1 t2 hk => wpAny_pyIter_zip Z.zp ?_
    have I2 : Inv X pins σ H1 { s1 with heap := g } := I1.kept (t' := s1.toks) hk
    refine ⟨s1.heap.objs.size + 4, [s1.heap.objs.size + 4, s1.heap.objs.size + 2, s1.heap.objs.size + 3, s1.heap.objs.size, s1.heap.objs.size + 1], _, _, H1, rfl, I2, turn_zm (PySem.W.ktu_apart s1.heap.objs.size a b la p2.lt), ⟨⟨_, _, Z⟩, t1, t2⟩, fun c hcm => ?_, q⟩
    have hle : s1.heap.objs.size ≤ c := by
      simp only [List.mem_cons, List.not_mem_nil, or_false] at hcm
      rcases hcm with r | r | r | r | r
      · rw [r]; exact Nat.le_add_right _ _
      · rw [r]; exact Nat.le_add_right _ _
      · rw [r]; exact Nat.le_add_right _ _
      · rw [r]; exact Nat.le_refl _
      · rw [r]; exact Nat.le_add_right _ _
    exact I1.fpOk hle (I1.hok.fresh hle)
section
variable {K : PySem.W.Frag} {a b : Addr} {xs ys : List V}
theorem walk_zm {n : Nat} (h1 : xs.length = n) (h2 : ys.length = n) : Walk (Itm K a b) n (fun H => SqT K H a xs ∧ SqL K H b ys) (YPair (fun i => xs[i]?) (fun i => ys[i]?)) := by
  refine ⟨fun i _ hi q => ⟨xs, ys, xs[i], ys[i], q.1, q.2, by simp [h1, hi], by simp [h2, hi]⟩, fun _ q => ⟨xs, ys, q.1, q.2, by omega⟩, fun i H v H' _ q y => ?_⟩
  obtain ⟨T, x, z, r1, r2, r3, r4, r5⟩ := y
  exact ⟨T, x, z, r1, r2, r3, r4 xs q.1, r5 ys q.2⟩
end
end FR
set_option Elab.async false
set_option linter.all false
set_option maxRecDepth 100000
/-! a, b, *c = a tuple -/
namespace FR
open PySem PySem.Spec PySem.Calls PyProof.Rows L2
section
variable {prog : Program} {w : World} {A : Around} {E : Value → Shared → Prop} {s : Shared}
open PySem.W in
theorem un_star {l : Addr} {items : Array Value} {n i : Nat} {Q : List Value → Shared → Prop} (hl : IsTup s.heap l items) (hh : A.handled = none) (hi : i < n) (hn : n ≤ items.size + 1) (hz : items.size ≤ 16384)
    (q : ∀ (g : Heap) (tk : Nat), (∀ b o, s.heap.get? b = some o → g.get? b = some o) →
      Q (items.toList.take i ++ [.ref g.objs.size] ++ (items.toList.drop i).drop (items.size + 1 - n)) { s with heap := g.push { cls := .type "list", data := .seq ((items.toList.drop i).take (items.size + 1 - n)).toArray }, toks := tk }) : wpAny (model prog w) A (unpackItems (.ref l) n (some i)) Q E s := by
  have bl : l < s.heap.objs.size := by obtain ⟨o, ho, _⟩ := id hl; exact Heap.lt_size ho
  have nl : l ≠ s.heap.objs.size := Nat.ne_of_lt bl
  unfold unpackItems; refine wpAny_bind ?_
  unfold notIterableAtAll; refine wpAny_bind (wpAny_specialOf hl.typeIs slot_tuple_iter.lookup ?_)
  refine wpAny_pure ?_; simp only [Bool.false_eq_true, if_false]
  refine wpAny_bind (wpAny_holding (iter_tuple hl ?_)); refine wpAny_bind (wpAny_holding (draw_tuple nl i 0 _ _ ⟨_, Heap.get?_push_size _ rfl, rfl, rfl⟩ (hl.push _) (by omega) fun g1 t1 s1 => ?_))
  have hl1 : IsTup g1 l items := (hl.push _).extBut s1.extBut nl
  rw [Nat.zero_add] at t1
  obtain ⟨oi, hoi, _⟩ := id t1
  obtain ⟨ol, hol, _⟩ := id hl1
  rw [List.drop_zero]
  have e1 : (items.toList.take i).length = i := by rw [List.length_take, Array.length_toList]; omega
  have e2 : (items.toList.drop i).length = items.size - i := by rw [List.length_drop, Array.length_toList]
  have e3 : (items.toList.drop i).length - (n - 1 - i) = items.size + 1 - n := by rw [e2]; omega
  rw [if_neg (show ¬ ((items.toList.take i).length < i) by omega)]
  have hW := Walks.tuple (prog := prog) (w := w) (A := A.in1) hh s.heap.objs.size l nl items
  refine wpAny_bind (wpAny_holding (kun_collect (s := { s with heap := g1 }) (T := "tuple_iterator") (.inr (.inr (.inr rfl))) hW (fun j u st => st.1.typeIs) (k := i) (by omega) ⟨t1, hl1⟩ (Heap.lt_size hoi) (Heap.lt_size hol) (fun g2 tk hk => ?_) (by rw [sizeLine_eq]; omega)))
  show wpAny _ _ (if (items.toList.drop i).length < n - 1 - i then _ else _) _ _ _; rw [if_neg (by rw [e2]; omega)]
  show wpAny _ _ (newList ((items.toList.drop i).take ((items.toList.drop i).length - (n - 1 - i))) >>= fun d => pure (items.toList.take i ++ [d] ++ (items.toList.drop i).drop ((items.toList.drop i).length - (n - 1 - i)))) _ _ _
  rw [e3]
  have hx : ∀ b o, s.heap.get? b = some o → g2.get? b = some o := fun b o e => hk b o (Nat.ne_of_lt (Heap.lt_size e)) (s1.extBut b o (Nat.ne_of_lt (Heap.lt_size e)) (Heap.get?_push_of_some _ e))
  refine wpAny_bind (wpAny_newList (wpAny_pure (q g2 tk hx)) ?_)
  rw [List.length_take, e2, sizeLine_eq]; omega
end
section
variable {X : Cx} {pos : Pos}
def gUnS (K : PySem.W.Frag) (n i : Nat) (t : TGs) : TG := fun v σ H Q => ∃ a xs, v = .ref a ∧ SqT K H a xs ∧ n ≤ xs.length + 1 ∧ xs.length ≤ 16384 ∧
  NewO (.lst ((xs.drop i).take (xs.length + 1 - n))) (fun d H' => t (xs.take i ++ [d] ++ (xs.drop i).drop (xs.length + 1 - n)) σ H' Q) H
theorem pg_unS {es : List Expr} {k : Nat} {t : TGs} {n i : Nat} (hc : X.calm = true) (h : PGs X es t)
    (hn : (assignEach es X.env).length = n := by rfl) (hst : (assignEach es X.env).findIdx? (·.1) = some i := by rfl) (hi : i < n := by decide) : PG X (.Tuple es k pos) (gUnS X.K n i t) := by
  refine ⟨fun pins s σ H v u Q I r hw => ?_⟩
  obtain ⟨a, xs, rfl, hq, hln, hz, hw⟩ := hw
  cases r
  obtain ⟨its, rv, ht, _⟩ := I.tuple hq
  have el := rv.length
  rw [assign_Tuple]
  refine wpAny_bind (wpAny_standAt ?_)
  unfold unpack
  rw [hn, hst]
  refine wpAny_bind (wpAny_holding (un_star (items := its.toArray) ht (I.ok.hd hc) hi (by simpa [← el] using hln) (by simpa [← el] using hz) fun g tk hk => ?_))
  have esz : its.toArray.size + 1 - n = xs.length + 1 - n := by simp [el]
  rw [esz]
  have rm : Vals ((xs.drop i).take (xs.length + 1 - n)) ((its.drop i).take (xs.length + 1 - n)) := (rv.drop i).take _
  have sm : ((xs.drop i).take (xs.length + 1 - n)).length ≤ sizeLine := by
    have : ((xs.drop i).take (xs.length + 1 - n)).length ≤ xs.length := by rw [List.length_take, List.length_drop]; omega
    exact Nat.le_trans this (Nat.le_trans hz (by rw [sizeLine_eq]; omega))
  have I0 : Inv X pins σ H { s with heap := g, toks := tk } := I.kept (t' := tk) hk
  have hf : H g.objs.size = none := I0.hok.fresh (Nat.le_refl _)
  have I1 := I0.laid (t' := tk) (o := .lst ((xs.drop i).take (xs.length + 1 - n))) (fun b o e => Heap.get?_push_of_some _ e) (Nat.le_refl _) ⟨sm, (its.drop i).take (xs.length + 1 - n), 0, rm, by simpa using Heap.get?_push_size _ rfl⟩
  exact h.run pins _ σ _ _ _ Q I1 (((rv.take i).append (.cons (show RelV (.ref g.objs.size) (.ref g.objs.size) from rfl) .nil)).append ((rv.drop i).drop _)) (hw.to g.objs.size _ hf (keep_new hf) upd_same)
theorem pgs_star {e : Expr} {p : Pos} {es : List Expr} {t : TG} {u : TGs} (h1 : PG X e t) (h2 : PGs X es u)
    (hs : (assignEach (.Starred e p :: es) X.env).map (·.2) = assign e X.env :: (assignEach es X.env).map (·.2) := by rfl) : PGs X (.Starred e p :: es) (gCons t u) := by
  refine ⟨fun pins s σ H vs us Q I r h => ?_⟩
  obtain ⟨v, vr, rfl, h⟩ := h
  cases r with
  | cons r rr =>
    rw [hs]
    exact assignInOrder_cons (thn (h1.run pins s σ H _ _ _ I r h) fun _ s1 ⟨σ1, H1, I1, q1⟩ => h2.run pins s1 σ1 H1 _ _ Q I1 rr q1)
end
end FR
set_option Elab.async false
set_option linter.all false
set_option maxRecDepth 100000
/-! list(d.values()), list(d.items()) -/
namespace FR
open PySem PySem.Spec PySem.Calls PyProof.Rows L2 L2.DX
open PySem.W (kdl_call kdl_values kdl_vals_eq dil_call DilG)
/-- the view d.values() at p -/
def valuesO (p d : Addr) : HO := .ext fun h => h.IsValuesView p d
theorem valuesO_ok {P : Program} {w : World} {H : Hp} {h : Heap} {p d : Addr} (e : h.get? p = some { cls := .type "dict_values", data := .fields #[.ref d] }) : ObjOk P w H h p (valuesO p d) :=
  ⟨⟨_, e, rfl, rfl⟩, ⟨_, e⟩, fun h1 h2 x k => let ⟨o, ho, r⟩ := x; ⟨o, k o ho, r⟩⟩
theorem KV.seconds {κ : Type} {kvs : List (κ × V)} {vs : List (κ × Value)} (r : KV kvs vs) : Vals (kvs.map (·.2)) (vs.map (·.2)) := by
  unfold KV at r
  induction r with
  | nil => exact .nil
  | cons h t ih => exact .cons h.2 ih
section
variable {X : Cx}
def rValsK : V → List V → Hp → VK → Prop := fun x xs H Q => ∃ (a : Addr) (kvs : List (L2.Key × V)), x = .ref a ∧ xs = [] ∧ H a = some (.dK kvs) ∧ ∀ p, H p = none → Q (.ref p) (upd H p (valuesO p a))
theorem mt_valuesK : MtR X "dict.values" rValsK := by
  intro pins s σ H x xs v us Q I rx rxs h
  obtain ⟨a, kvs, rfl, rfl, ha, q⟩ := h
  cases rx
  cases rxs
  obtain ⟨z, hd, vs, rel, dd⟩ := dk_of I.hok ha
  have hf : H s.heap.objs.size = none := I.hok.fresh (Nat.le_refl _)
  exact call_meetsIn PySem.F.slot_dict_values dd.typeIs PySem.F.entry_dict_values (PySem.F.args_dict_values_1 _) (meets_dict_values (mixKind X.prog X.w) a hd)
    ⟨⟨vs, dd⟩, ⟨.ref s.heap.objs.size, upd H s.heap.objs.size (valuesO s.heap.objs.size a), I.laid (t' := s.toks) (fun b u e => Heap.get?_push_of_some _ e) (Nat.le_refl _) (valuesO_ok (Heap.get?_push_size _ rfl)), rfl, q _ hf⟩⟩
def rItemsK : V → List V → Hp → VK → Prop := fun x xs H Q => ∃ (a : Addr) (kvs : List (L2.Key × V)), x = .ref a ∧ xs = [] ∧ H a = some (.dK kvs) ∧ ∀ p, H p = none → Q (.ref p) (upd H p (itemsO p a))
theorem mt_itemsK : MtR X "dict.items" rItemsK := by
  intro pins s σ H x xs v us Q I rx rxs h
  obtain ⟨a, kvs, rfl, rfl, ha, q⟩ := h
  cases rx
  cases rxs
  obtain ⟨z, hd, vs, rel, dd⟩ := dk_of I.hok ha
  have hf : H s.heap.objs.size = none := I.hok.fresh (Nat.le_refl _)
  exact call_meetsIn PySem.F.slot_dict_items dd.typeIs PySem.F.entry_dict_items (PySem.F.args_dict_items_1 _) (meets_dict_items (mixKind X.prog X.w) a hd)
    ⟨⟨vs, dd⟩, ⟨.ref s.heap.objs.size, upd H s.heap.objs.size (itemsO s.heap.objs.size a), I.laid (t' := s.toks) (fun b u e => Heap.get?_push_of_some _ e) (Nat.le_refl _) (itemsO_ok (Heap.get?_push_size _ rfl)), rfl, q _ hf⟩⟩
def rLVals : List V → Hp → VK → Prop := fun xs H Q => ∃ (p a : Addr) (kvs : List (L2.Key × V)), xs = [.ref p] ∧ H p = some (valuesO p a) ∧ H a = some (.dK kvs) ∧ NewO (.lst (kvs.map (·.2))) Q H
theorem call_lVals (hc : X.calm = true) : CallR X (.type "list") rLVals := by
  intro pins s σ H xs us Q I r h
  obtain ⟨p, a, kvs, rfl, hp, ha, q⟩ := h
  obtain rfl := Vals.ref1 r
  have view : s.heap.IsValuesView p a := (show ObjOk X.prog X.w H s.heap p (valuesO p a) from I.hok p _ hp).1
  obtain ⟨z, hd, vs, rel, dd⟩ := dk_of I.hok ha
  obtain ⟨ep, hat⟩ := dd.dictAt
  have hl : kvs.length = vs.length := Paired.length rel
  refine kdl_call (kdl_values (knd := mixKind X.prog X.w) (kvs := vs) (ep := ep)) (I.ok.hd hc) ⟨view, hat⟩ (by omega) fun h' tk acc c hk hS hacc => ?_
  have ev : acc.toList = vs.map (·.2) := kdl_vals_eq acc.toList (by rw [Array.length_toList]; exact hacc.1) fun j u hu => hacc.2 j u (by rw [← Array.getElem?_toList]; exact hu)
  have hf : H s.heap.objs.size = none := I.hok.fresh (Nat.le_refl _)
  have ok : ObjOk X.prog X.w (upd H s.heap.objs.size (.lst (kvs.map (·.2)))) h' s.heap.objs.size (.lst (kvs.map (·.2))) := ⟨by rw [List.length_map]; exact z, vs.map (·.2), c, KV.seconds rel, by rw [hS, ← ev]⟩
  exact ⟨.ref s.heap.objs.size, _, I.laid (t' := tk) hk (Nat.le_refl _) ok, rfl, q.to _ _ hf (keep_new hf) upd_same⟩
def rLItems : List V → Hp → VK → Prop := fun xs H Q => ∃ (p a : Addr) (kvs : List (L2.Key × V)), xs = [.ref p] ∧ H p = some (itemsO p a) ∧ H a = some (.dK kvs) ∧
  ∀ (H' : Hp) (l : Addr) (ps : List Addr), H l = none → Keep [] H H' → H' l = some (.lst (ps.map V.ref)) → Paired (fun p kv => H p = none ∧ H' p = some (.tup [kV kv.1, kv.2])) ps kvs → Q (.ref l) H'
theorem paired_of {α β : Type} {R : α → β → Prop} : ∀ {xs : List α} {ys : List β}, xs.length = ys.length → (∀ (j : Nat) (x : α) (y : β), xs[j]? = some x → ys[j]? = some y → R x y) → Paired R xs ys
  | [], [], _, _ => .nil
  | x :: xs, y :: ys, hl, h => .cons (h 0 x y rfl rfl) (paired_of (by simpa using hl) fun j a b ha hb => h (j + 1) a b (by simpa using ha) (by simpa using hb))
  | [], _ :: _, hl, _ => by simp at hl
  | _ :: _, [], hl, _ => by simp at hl
theorem paired_get {α β : Type} {R : α → β → Prop} {xs : List α} {ys : List β} (r : Paired R xs ys) : ∀ {j : Nat} {y : β}, ys[j]? = some y → ∃ x, xs[j]? = some x ∧ R x y := by
  induction r with
  | nil => intro j y h; simp at h
  | @cons a b as bs h t ih =>
    intro j y hy
    cases j with
    | zero => exact ⟨a, rfl, by simp at hy; subst hy; exact h⟩
    | succ j => exact ih (by simpa using hy)
theorem call_lItems (hc : X.calm = true) : CallR X (.type "list") rLItems := by
  intro pins s σ H xs us Q I r h
  obtain ⟨p, a, kvs, rfl, hp, ha, q⟩ := h
  obtain rfl := Vals.ref1 r
  have view : s.heap.IsItemsView p a := (show ObjOk X.prog X.w H s.heap p (itemsO p a) from I.hok p _ hp).1
  obtain ⟨z, hd, vs, rel, dd⟩ := dk_of I.hok ha
  have hl : kvs.length = vs.length := Paired.length rel
  obtain ⟨es, ep, raw, esz, ent⟩ := dd.raw
  refine dil_call (I.ok.hd hc) view raw (by omega) fun h' tk acc c as hk hS hal hG hacc => ?_
  have hf : H s.heap.objs.size = none := I.hok.fresh (Nat.le_refl _)
  have nd : as.Nodup := List.Pairwise.imp (fun h => Nat.ne_of_lt h) hG.rise
  have ok : ObjOk X.prog X.w (upd H s.heap.objs.size (.lst (as.map V.ref))) h' s.heap.objs.size (.lst (as.map V.ref)) :=
    ⟨by rw [List.length_map]; omega, as.map Value.ref, c, vals_maps V.ref Value.ref as fun _ _ => rfl, by rw [hS, ← hacc]⟩
  have I2 := I.laid (t' := tk) hk (Nat.le_refl _) ok
  have pr : ∀ (j : Nat) (b : Addr), as[j]? = some b → ∃ kv u1 u2, kvs[j]? = some kv ∧ RelV (kV kv.1) u1 ∧ RelV kv.2 u2 ∧ h'.get? b = some { cls := .type "tuple", data := .seq #[u1, u2] } := by
    intro j b hj
    obtain ⟨hj', e⟩ := hG.pairs j b hj
    have hlt : j < vs.length := by omega
    have hv : vs[j]? = some vs[j] := List.getElem?_eq_getElem hlt
    obtain ⟨kv, ek, r1, r2⟩ := paired_get rel hv
    obtain ⟨e1, e2⟩ := ent j hj' vs[j].1 vs[j].2 hv
    exact ⟨kv, _, _, ek, by rw [r1]; exact relV_key e1, by rw [e2]; exact r2, e⟩
  obtain ⟨H2, I3, g, qt⟩ := takeT (P := fun b ws => ∃ (j : Nat) (kv : L2.Key × V), as[j]? = some b ∧ kvs[j]? = some kv ∧ ws = [kV kv.1, kv.2]) I as _ I2 nd fun b hb => by
    obtain ⟨j, hj⟩ := List.mem_iff_getElem?.mp hb
    obtain ⟨kv, u1, u2, ek, r1, r2, hg⟩ := pr j b hj
    have hbl : s.heap.objs.size < b := hG.above b hb
    refine ⟨Nat.le_of_lt hbl, by rw [upd_ne (Nat.ne_of_gt hbl)]; exact I.hok.fresh (Nat.le_of_lt hbl), [kV kv.1, kv.2], ⟨j, kv, hj, ek, rfl⟩, fun H3 => ⟨(by rw [sizeLine_eq]; show 2 ≤ 16777216; omega), [u1, u2], .cons r1 (.cons r2 .nil), ⟨_, hg, rfl, 0, rfl⟩⟩⟩
  refine ⟨.ref s.heap.objs.size, H2, I3, rfl, q H2 s.heap.objs.size as hf (fun b o e _ => g b o (by rw [upd_ne (ne_of_none e hf)]; exact e)) (g _ _ upd_same) (paired_of (by omega) fun j b kv hj ek => ?_)⟩
  have hbm := List.mem_of_getElem? hj
  obtain ⟨ws, ⟨i, kv', hi, ek', rfl⟩, hH⟩ := qt b hbm
  have eij : i = j := (List.getElem?_inj (List.getElem?_eq_some_iff.mp hi).1 nd).mp (hi.trans hj.symm)
  subst eij
  rw [ek] at ek'
  cases ek'
  exact ⟨I.hok.fresh (Nat.le_of_lt (hG.above b hbm)), hH⟩
end
end FR
set_option Elab.async false
set_option linter.all false
set_option maxRecDepth 100000
/-! enumerate(text) -/
namespace FR
open PySem PySem.Spec PyProof.Rows L2
/-- the signs of a text, each with its place, in new pairs -/
def IteS (z : Str) : It :=
  ⟨fun i _ => i < z.cps.size, fun i H v H' => ∃ T c, v = .ref T ∧ H T = none ∧ H' = upd H T (.tup [.int (i : Nat), .str ⟨#[c]⟩]) ∧ z.cps[i]? = some c, fun i _ => i = z.cps.size⟩
theorem draws_str {prog : Program} {w : World} {A : Around} (hh : A.handled = none) (it : Addr) (x : Str) (t : Tok) :
    Draws prog w A it [it] x.cps.size (fun i v => ∃ c u, x.cps[i]? = some c ∧ v = .str ⟨#[c]⟩ u) (fun i h => h.IsStrIter it (strIterType x) x t i) := by
  rcases (show strIterType x = "str_ascii_iterator" ∨ strIterType x = "str_iterator" by unfold strIterType; split; exact .inl rfl; exact .inr rfl) with e | e
  · rw [e]; exact Draws.strAscii hh it x t
  · rw [e]; exact Draws.strWide hh it x t
theorem turn_enumS {P : Program} {w : World} {K : PySem.W.Frag} {elts : List Expr} {kk : Nat} {tpos : Pos} (z : Str) (t : Tok) (e it : Addr) :
    Turn P w K (.Tuple elts kk tpos) (IteS z) [e, it] e (fun i h => (∃ old, IsEnum h e it ((i : Nat) : Int) old) ∧ h.IsStrIter it (strIterType z) z t i ∧ e ≠ it) where
  mem := by simp
  obj := fun i h st b hb => by
    obtain ⟨⟨old, he⟩, ⟨o, ho, hc, hd⟩, _⟩ := st
    rcases (by simpa using hb : b = e ∨ b = it) with r | r
    · rw [r]; exact ⟨_, he, fun v q => nomatch q⟩
    · rw [r]; exact ⟨o, ho, fun v q => by rw [hd] at q; cases q⟩
  keep := fun i h g st k => by
    obtain ⟨⟨old, he⟩, ⟨o, ho, r⟩, hne⟩ := st
    exact ⟨⟨old, k e (by simp) _ he⟩, ⟨o, k it (by simp) o ho, r⟩, hne⟩
  item := by
    intro X hP hw hK hc i pins s σ H E I hf st hg
    subst hP hw hK
    obtain ⟨⟨old, he⟩, hit, hne⟩ := st
    have hel : e < s.heap.objs.size := Heap.lt_size he
    have hil : it < s.heap.objs.size := by obtain ⟨_, q, _⟩ := id hit; exact Heap.lt_size q
    have D := draws_str (prog := X.prog) (w := X.w) (A := X.A.in1) (show X.A.in1.handled = none from I.ok.hd hc) it z t
    refine wpAny_pyNext_enum_itemD D he hit hg hne (by simpa using hne) fun x g tk px ho hit' hT hsz hk => ?_
    obtain ⟨c, u, ec, rfl⟩ := px
    refine ⟨_, rfl, wpAny_letOwnedTupleGo_enum (s := { s with heap := g, toks := tk + 1 }) ho fun g2 he' sb => ?_⟩
    have hT2 : g2.get? s.heap.objs.size = some { cls := .type "tuple", data := .seq #[.int i tk, .str ⟨#[c]⟩ u] } := (sb.2 _ (Nat.ne_of_gt hel)).trans hT
    have new : ObjOk X.prog X.w (upd H s.heap.objs.size (.tup [.int (i : Nat), .str ⟨#[c]⟩])) g2 s.heap.objs.size (.tup [.int (i : Nat), .str ⟨#[c]⟩]) :=
      ⟨by show 2 ≤ sizeLine; decide, [.int i tk, .str ⟨#[c]⟩ u], .cons ⟨_, rfl⟩ (.cons ⟨_, rfl⟩ .nil), ⟨_, hT2, rfl, _, rfl⟩⟩
    have I1 : Inv X pins σ (upd H s.heap.objs.size (.tup [.int (i : Nat), .str ⟨#[c]⟩])) { s with heap := g2, toks := tk + 1 } :=
      I.turnedNew (ch := [e, it]) (fun b ob hb q => (sb.2 b (fun r => hb (by simp [r]))).trans (hk b ob (fun r => hb (by simp [r])) (fun r => hb (by simp [r])) q)) hf (Nat.le_refl _) new
    refine ⟨.ref s.heap.objs.size, _, I1, rfl, ⟨_, c, rfl, I.hok.fresh (Nat.le_refl _), rfl, ec⟩, ⟨⟨Value.str ⟨#[c]⟩ u, ?_⟩, ?_, hne⟩, fun b hb => ?_⟩
    · rw [show ((i + 1 : Nat) : Int) = (i : Int) + 1 by omega]; exact he'
    · obtain ⟨o, eo, r⟩ := hit'
      exact ⟨o, (sb.2 it (Ne.symm hne)).trans eo, r⟩
    · have hb' : b < s.heap.objs.size := by
        rcases (by simpa using hb : b = e ∨ b = it) with r | r
        · rw [r]; exact hel
        · rw [r]; exact hil
      rw [upd_ne (Nat.ne_of_lt hb')]
      exact (hf b hb).1
  done := by
    intro X hP hw hK hc i pins s σ H E I hf st hg
    subst hP hw hK
    obtain ⟨⟨old, he⟩, hit, hne⟩ := st
    obtain ⟨f0, f1, f2, f3, f4, f5⟩ := hf it (by simp)
    have D := draws_str (prog := X.prog) (w := X.w) (A := X.A.in1) (show X.A.in1.handled = none from I.ok.hd hc) it z t
    have ei : i = z.cps.size := hg
    subst ei
    refine wpAny_pyNext_enum_endD D he hit fun g eb => ⟨rfl, I.turned (t' := s.toks) (fun b o hb q => eb b o hb q) f0 f1 f3 f4 f5⟩
  self := fun A i s Q E st h => let ⟨⟨_, he⟩, _⟩ := st; wpAny_pyIter_enum he h
def iEnumS (ta : TA) : TI := fun σ H R => ta σ H fun vs H1 => ∃ z, vs = [.str z] ∧ R (IteS z) H1
theorem pi_enumS {X : Cx} {e : Expr} {ta : TA} {p pos tpos : Pos} {elts : List Expr} {kk : Nat} (hg : Gl X "enumerate") (hm : X.mg "enumerate" = none) (ha : PA X [e] ta) (hs : starEach [e] X.env = [(false, eval e X.env)] := by rfl) :
    PI X (.Tuple elts kk tpos) (.Call (.Name "enumerate" p) [e] [] pos) (iEnumS ta) := by
  refine ⟨fun pins s σ H R I h => Call_ (ld_blt I hg hm boot_enumerate (PyProof.Rows.callWith_type1 (thn (ha.run pos pins s σ H _ I h) fun us s1 hh => ?_) hs rfl))⟩
  obtain ⟨vs, H1, I1, r1, z, rfl, q⟩ := hh
  obtain ⟨u, rfl, ru⟩ := r1.one
  obtain ⟨t, rfl⟩ := ru
  refine call_enumerate_str fun g he hit hsz hk => wpAny_pyIter_enum he ?_
  have I2 : Inv X pins σ H1 { s1 with heap := g } := I1.kept (t' := s1.toks) hk
  refine ⟨s1.heap.objs.size + 1, [s1.heap.objs.size + 1, s1.heap.objs.size], _, _, H1, rfl, I2, turn_enumS z t (s1.heap.objs.size + 1) s1.heap.objs.size, ⟨⟨.none, he⟩, hit, Nat.succ_ne_self _⟩, fun b hb => ?_, q⟩
  have hle : s1.heap.objs.size ≤ b := by
    rcases (by simpa using hb : b = s1.heap.objs.size + 1 ∨ b = s1.heap.objs.size) with r | r
    · rw [r]; exact Nat.le_add_right _ _
    · rw [r]; exact Nat.le_refl _
  exact I1.fpOk hle (I1.hok.fresh hle)
theorem walk_enumS {z : Str} : Walk (IteS z) z.cps.size (fun _ => True) (YPair (fun i => some (.int (i : Nat))) (fun i => z.cps[i]?.map fun c => .str ⟨#[c]⟩)) :=
  ⟨fun _ _ hi _ => hi, fun _ _ => rfl, fun i H v H' _ _ y => by
    obtain ⟨T, c, r1, r2, r3, r4⟩ := y
    exact ⟨T, .int (i : Nat), .str ⟨#[c]⟩, r1, r2, r3, rfl, by show (z.cps[i]?).map _ = _; rw [r4]; rfl⟩⟩
end FR
set_option Elab.async false
set_option linter.all false
set_option maxRecDepth 100000
/-! a new dict that is walked -/
namespace FR
open PySem PySem.Spec PyProof.Rows L2
def tFrz (t : TE) : TE := fun σ H Q => t σ H fun x H1 => ∃ (d : Addr) (u : HO), x = .ref d ∧ H1 d = some u ∧ Mut (some u) ∧ ∀ od, Q x (upd H1 d (.frz od u))
theorem pe_frz {X : Cx} {e : Expr} {t : TE} (h : PE X e t) : PE X e (tFrz t) := ⟨fun pins s σ H Q I hq => thn (h.run pins s σ H _ I hq) fun v s1 hh => by
  obtain ⟨x, H1, I1, r, d, u, ex, hd, mu, q⟩ := hh
  obtain ⟨od, I2⟩ := I1.lock hd mu
  exact ⟨x, _, I2, r, q od⟩⟩
theorem pe_nev {X : Cx} {e : Expr} : PE X e (fun _ _ _ => False) := ⟨fun _ _ _ _ _ _ h => h.elim⟩
def rNotKd (K : PySem.W.Frag) (d : Addr) : R2 := fun x y H Q => ∃ (z : Str) (r : Option Value), x = .str z ∧ y = .ref d ∧ PySem.W.nsIn K d z = some r ∧ Q (.bl (!r.isSome)) H
theorem op_notKd {X : Cx} {K : PySem.W.Frag} {w : World} {d : Addr} (hk : X.K = K) (hw : X.w = w) (D : ∃ es n, KDict K w d es n) : OpR X (compareOp .NotIn) (rNotKd K d) := by
  subst hk hw
  obtain ⟨es, n, D⟩ := D
  exact op_notIn_kd D
theorem ix_tupK {X : Cx} {K : PySem.W.Frag} (h : X.K = K) : IxR X (rIxT K) := h ▸ ix_tup
/-- what no call reaches -/
theorem never_elim {P : Prop} (h : False) : P := h.elim
end FR
set_option Elab.async false
set_option linter.all false
set_option maxRecDepth 100000
set_option maxHeartbeats 4000000
/-! sets of texts: set(texts), its len, sorted(set) -/
namespace FR
open PySem PySem.Spec PyProof.Rows PySem.Froz
/-- the texts that were met, each once -/
def once (l : List Str) (xs : List Str) : List Str := xs.foldl (fun l x => if x ∈ l then l else x :: l) l
/-- a payload that holds these texts and that can be walked -/
structure Sx (P : Program) (w : World) (D : SD) (l : List Str) : Prop where
  tx : TxOk P w D l
  ris : L2.Ris D.2.2.place.toList
  led : w.params.followText "set-order" = true ∨ D.2.2.led = true
  nd : l.Nodup
section
variable {P : Program} {w : World} {A : Around} {E : Value → Shared → Prop}
theorem Sx.add {D : SD} {l : List Str} {k : Str} (u : Tok) (F : Sx P w D l) (m : k ∉ l) : Sx P w (addTx (hashStr w k) (.str k u) D) (k :: l) := by
  have r1 := L2.layNew_ris D.2.2 D.1 (hashStr w k) (.str k u) F.ris
  have l1 := L2.layNew_led D.2.2 D.1 (hashStr w k) (.str k u)
  have led1 : w.params.followText "set-order" = true ∨ (layNew D.2.2 D.1 (hashStr w k) (.str k u)).2.1.led = true := by rw [l1]; exact F.led
  refine ⟨add_ok u F.tx, ?_, ?_, List.nodup_cons.mpr ⟨m, F.nd⟩⟩
  all_goals
    unfold addTx tailTx
    generalize layNew D.2.2 D.1 (hashStr w k) (.str k u) = Z at r1 led1 ⊢
    obtain ⟨es1, t1, wd, gv⟩ := Z
    dsimp only at r1 led1 ⊢
    by_cases c : t1.plain = true
  all_goals first | rw [if_pos c] | rw [if_neg c]
  all_goals split
  all_goals first
    | exact L2.relayAll_ris _ _ _
    | exact r1
    | exact led1
    | (dsimp only; rw [L2.relayAll_led]; exact led1)
theorem Sx.new {t : SetTable} {ep : Nat} (w : World) (hf : t.fits 0 = true) (hr : L2.Ris t.place.toList) (hl : w.params.followText "set-order" = true ∨ t.led = true) : Sx P w (#[], ep, t) [] := ⟨TxOk.nil hf, hr, hl, List.nodup_nil⟩
theorem fresh_led (w : World) : w.params.followText "set-order" = true ∨ (!w.params.followText "set-order") = true := by
  cases w.params.followText "set-order"
  · exact .inr rfl
  · exact .inl rfl
theorem Sx.fresh (w : World) : Sx P w (#[], 0, .fresh 0 0 (!w.params.followText "set-order")) [] := Sx.new w rfl List.Pairwise.nil (fresh_led w)
/-- the rest of the texts of a source into the set -/
theorem upd_txs {I a : Addr} {fp wr : List Addr} {G : Array GenState → Array GenState → Prop} {n : Nat} {Pv : Nat → Value → Prop} {St : Nat → Shared → Prop} {R : Result → Shared → Prop} {T : String} {xs : List Str}
    (W : WalksS P w A.in1 I fp wr G n Pv St) (na : a ∉ fp) (hn : n = xs.length) (hval : ∀ i v, Pv i v → ∃ x t, xs[i]? = some x ∧ v = .str x t) :
    ∀ (r : List Str) (i : Nat) (D : SD) (l : List Str) (s : Shared), xs.drop i = r → i ≤ n → St i s → s.heap.get? a = some (sObj T D) → Sx P w D l → l.length + r.length < scanBound →
      (∀ (s' : Shared) (D' : SD), Moved (a :: wr) G s s' → s'.heap.get? a = some (sObj T D') → Sx P w D' (once l r) → R (.ok (.ret .none)) s') →
      codeAny (model P w) A (.builtin "set.update.loop" ⟨[.ref a, .ref I], []⟩) R s
  | [], i, D, l, s, dr, hi, st, ha, F, room, q => by
    have e : i = n := by
      have := List.drop_eq_nil_iff.mp dr
      omega
    subst e
    refine codeAny_builtin PyProof.Rows.F.entry_set_update_loop ?_
    rw [Around.under_plainId PyProof.Rows.F.plain_set_update_loop _]
    show wpAny _ A.in1 (pyNext (.ref I) >>= fun _ => _) _ _ s
    refine wpAny_bind (W.done s _ _ st fun s' mv => ?_)
    show wpAny _ A.in1 (ret Value.none) _ _ _
    exact wpAny_pure (q s' D (mv.mono fun b hb => List.mem_cons_of_mem _ hb) (mv.heap a _ (fun h => na (W.sub _ h)) ha) F)
  | c :: r, i, D, l, s, dr, hi, st, ha, F, room, q => by
    have lt : i < xs.length := by
      rcases Nat.lt_or_ge i xs.length with z | z
      · exact z
      · rw [List.drop_eq_nil_iff.mpr z] at dr
        cases dr
    have dr' := List.drop_eq_getElem_cons lt
    rw [dr] at dr'
    have room2 : l.length + (r.length + 1) < scanBound := room
    obtain ⟨ec, dr2⟩ := List.cons.inj dr'
    refine codeAny_builtin PyProof.Rows.F.entry_set_update_loop ?_
    rw [Around.under_plainId PyProof.Rows.F.plain_set_update_loop _]
    show wpAny _ A.in1 (pyNext (.ref I) >>= fun _ => _) _ _ s
    refine wpAny_bind (W.item i s _ _ (by omega) st fun v s1 hv st1 mv => ?_)
    obtain ⟨x, t, ex, rfl⟩ := hval i v hv
    obtain rfl : x = c := by rw [List.getElem?_eq_getElem lt] at ex; rw [ec]; exact (Option.some.inj ex).symm
    have ha1 := mv.heap a _ (fun h => na (W.sub _ h)) ha
    have mv1 : Moved (a :: wr) G s s1 := mv.mono fun b hb => List.mem_cons_of_mem _ hb
    show wpAny _ A.in1 (holding [Value.str x t] (setAdd a (.str x t)) >>= fun _ => _) _ _ _
    refine wpAny_bind (wpAny_holding ?_)
    unfold setAdd
    refine wpAny_holding (wpAny_bind ((strKind P w).pyHash (k := x) (is_str _ _) ?_))
    have on : ∀ {s2 : Shared} {D2 : SD} {l2 : List Str}, St (i + 1) s2 → Moved (a :: wr) G s s2 → s2.heap.get? a = some (sObj T D2) → Sx P w D2 l2 → l2.length ≤ l.length + 1 → once l2 r = once l (x :: r) →
        codeAny (model P w) A (.builtin "set.update.loop" ⟨[.ref a, .ref I], []⟩) R s2 := fun {s2 D2 l2} st2 m2 a2 F2 le e =>
      upd_txs W na hn hval r (i + 1) D2 l2 s2 dr2.symm (by omega) st2 a2 F2 (by omega) fun s' D' m' a' F' => q s' D' (Moved.trans W.gtrans m2 m') a' (by rw [← e]; exact F')
    by_cases m : x ∈ l
    · refine add_there (s := { s1 with toks := s1.toks + 1 }) ha1 F.tx m (by omega) ?_
      refine wpAny_pure ⟨plainId_quiet PyProof.Rows.F.plain_set_update_loop _, on (W.frame _ s1 s1.heap _ st1 (Nat.le_succ _) fun b _ o e => e) (mv1.then_heap (Nat.le_succ _) fun b o _ e => e) ha1 F (by omega) ?_⟩
      show once l r = once l (x :: r)
      unfold once
      rw [List.foldl_cons, if_pos m]
    · refine add_x (l := l) (D := D) (s := { s1 with toks := s1.toks + 1 }) ha1 F.tx m (by omega) ?_
      refine wpAny_pure ⟨plainId_quiet PyProof.Rows.F.plain_set_update_loop _, on (W.frame _ s1 _ _ st1 (Nat.le_succ _) fun b hb o e => ?_) (mv1.then_heap (Nat.le_succ _) fun b o hb e => ?_) (get_upd _ ha1 rfl) (F.add t m) (Nat.le_refl _) ?_⟩
      · exact PySem.Heap.get?_update_of_ne _ (fun h : a = b => na (by rw [h]; exact hb)) e
      · exact PySem.Heap.get?_update_of_ne _ (fun h : a = b => hb (by rw [h]; exact List.mem_cons_self ..)) e
      · show once (x :: l) r = once l (x :: r)
        unfold once
        rw [List.foldl_cons, if_neg m]
/-- what set(xs) leaves -/
abbrev SetLeft (P : Program) (w : World) (s : Shared) (xs : List Str) (Q : Value → Shared → Prop) : Prop :=
  ∀ (h' : Heap) (tk : Nat) (D : SD), h'.get? s.heap.objs.size = some (sObj "set" D) → Sx P w D (once [] xs) → (∀ b o, s.heap.get? b = some o → h'.get? b = some o) → Q (.ref s.heap.objs.size) { s with heap := h', toks := tk }
theorem call_set_L {s : Shared} {p : Addr} {items : Array Value} {xs : List Str} {Q : Value → Shared → Prop} (hh : A.handled = none) (hp : s.heap.IsList p items) (hx : StrsAre items.toList xs) (hb : xs.length < scanBound)
    (h : SetLeft P w s xs Q) : wpAny (model P w) A (call (.type "set") [.ref p]) Q E s := by
  have hsz : items.size = xs.length := by
    have := hx.length
    rw [Array.length_toList] at this
    exact this
  obtain ⟨c, tl, hmro⟩ := PySem.F.called_set.mro
  have hmade := PySem.F.called_set.made
  have hsub := PySem.F.called_set.sub
  refine wpAny_call (codeAny_of_tree ?_)
  show wpAny _ _ (callAny (.type "set") _) _ _ _
  refine wpAny_pure ⟨Code.quiet_builtin _ (by decide +kernel), codeAny_builtin PySem.F.entry_type_call ?_⟩
  rw [Around.under_plain (weight_type_call_type "set" [.ref p] []) rfl]
  have h1 := PySem.F.called_set.notType
  have h2 := PySem.F.called_set.canCreate
  have hct := PySem.F.typeCall_set_1 (.ref p)
  repeat (any_goals (first | assumption | wp_step))
  let S0 : Obj := { cls := .type "set", dict := none, data := .set #[] 0 (.fresh 0 0 (!w.params.followText "set-order")) }
  refine codeAny_mono (L2.code_set_led1 (.ref p) (E := E) (Q₁ := fun obj s1 => obj = .ref s.heap.objs.size ∧ s1 = { s with heap := s.heap.push S0 }) ⟨rfl, rfl⟩) fun r s1 hr => ?_
  match r, hr with
  | .error e, hr => exact hr
  | .ok (.ret obj), hr =>
    obtain ⟨rfl, rfl⟩ := hr
    have hS : (s.heap.push S0).get? s.heap.objs.size = some S0 := Heap.get?_push_size _ rfl
    have hT : Shared.TypeIs { s with heap := s.heap.push S0 } (.ref s.heap.objs.size) "set" := ⟨_, hS, rfl⟩
    have hli := PySem.F.called_set.init.lookup
    have hbi := PySem.F.called_set.init.bind (.ref s.heap.objs.size)
    repeat (any_goals (first | assumption | wp_step))
    refine codeAny_mono (codeAny_call_builtin (R := wants (fun r s2 => r = .none ∧ ∃ (h' : Heap) (tk : Nat) (D : SD), s2 = { s with heap := h', toks := tk } ∧ h'.get? s.heap.objs.size = some (sObj "set" D) ∧ Sx P w D (once [] xs) ∧
      (∀ b o, s.heap.get? b = some o → h'.get? b = some o)) E) PySem.F.called_set.init.plain PySem.F.entry_set_init (check_set_init_1 hT ?_)) fun r2 s2 hr2 => ?_
    · have hp1 : (s.heap.push S0).IsList p items := hp.push _
      obtain ⟨ol, hol, hcl, nl, hdl⟩ := hp
      obtain ⟨ocls, odict, odata, oslots⟩ := ol
      simp only at hcl hdl
      subst hcl; subst hdl
      have hol' := Heap.get?_push_of_some S0 hol
      have hsls := PySem.F.sub_list_set
      have hslf := PySem.F.sub_list_frozenset
      have hne : (Value.type "list" == Value.type "dict") = false := by decide
      unfold Builtin.«set.__init__» noKeywords Builtin.Frozenset.updateFrom
      generalize hPI : pyIter = PI
      wp_walk
      subst hPI
      refine wpAny_pyIter_list hp1 ?_
      refine wpAny_bind (wpAny_runValue ?_)
      have hz1 : (s.heap.push S0).objs.size = s.heap.objs.size + 1 := Heap.size_push ..
      have hps : p < s.heap.objs.size := Heap.lt_size hol
      have nI : p ≠ (s.heap.push S0).objs.size := Nat.ne_of_lt (by rw [hz1]; exact Nat.lt_succ_of_lt hps)
      have nS : s.heap.objs.size ≠ (s.heap.push S0).objs.size := Nat.ne_of_lt (by rw [hz1]; exact Nat.lt_succ_self _)
      refine upd_txs (T := "set") (xs := xs) ((Walks.list (by simp [hh]) _ p nI items).toS) (a := s.heap.objs.size) ?_ hsz (fun i v hv => ?_) xs 0 (#[], 0, .fresh 0 0 (!w.params.followText "set-order")) [] _ rfl (Nat.zero_le _)
        ⟨⟨_, Heap.get?_push_size _ rfl, rfl, rfl⟩, hp1.push _⟩ (Heap.get?_push_of_some _ hS) (Sx.fresh w) (by simpa using hb) fun s' D' mv a' F' => ?_
      · simp only [List.mem_cons, List.not_mem_nil, or_false, not_or]
        exact ⟨nS, Nat.ne_of_gt hps⟩
      · obtain ⟨t, e⟩ := SS.strs_at hx i v (by rw [Array.getElem?_toList]; exact hv)
        have hi : i < xs.length := by rw [← hsz]; exact (Array.getElem?_eq_some_iff.mp hv).1
        refine ⟨xs[i], t, List.getElem?_eq_getElem hi, ?_⟩
        rw [e, List.getD_eq_getElem?_getD, List.getElem?_eq_getElem hi]
        rfl
      · obtain ⟨h', g2, d', tk', os'⟩ := s'
        have eg : g2 = s.gens := mv.gens
        have ed : d' = s.drawn := mv.drawn
        have eo : os' = s.os := mv.os
        subst eg; subst ed; subst eo
        show wpAny _ _ _ _ _ _
        refine wpAny_pure ?_
        show wpAny _ _ (ret Value.none) _ _ _
        refine wpAny_pure ⟨rfl, h', tk', D', rfl, a', F', fun b o e => ?_⟩
        have hb0 : b < s.heap.objs.size := Heap.lt_size e
        exact mv.heap b o (by simp only [List.mem_cons, List.not_mem_nil, or_false, not_or]; exact ⟨Nat.ne_of_lt hb0, Nat.ne_of_lt (by rw [hz1]; exact Nat.lt_succ_of_lt hb0)⟩) (Heap.get?_push_of_some _ (Heap.get?_push_of_some _ e))
    · match r2, hr2 with
      | .error e, hr2 => exact hr2
      | .ok (.ret r), hr2 =>
        obtain ⟨rfl, h', tk, D, rfl, g1, g2, g4⟩ := hr2
        repeat (any_goals (first | assumption | wp_step))
        exact h _ _ _ g1 g2 g4
      | .ok .next, hr2 => exact hr2.elim
      | .ok .brk, hr2 => exact hr2.elim
      | .ok .cont, hr2 => exact hr2.elim
  | .ok .next, hr => exact hr.elim
  | .ok .brk, hr => exact hr.elim
  | .ok .cont, hr => exact hr.elim
theorem call_set_T {s : Shared} {p : Addr} {items : Array Value} {xs : List Str} {Q : Value → Shared → Prop} (hh : A.handled = none) (hp : s.heap.IsTuple p items) (hx : StrsAre items.toList xs) (hb : xs.length < scanBound)
    (h : SetLeft P w s xs Q) : wpAny (model P w) A (call (.type "set") [.ref p]) Q E s := by
  have hsz : items.size = xs.length := by
    have := hx.length
    rw [Array.length_toList] at this
    exact this
  obtain ⟨c, tl, hmro⟩ := PySem.F.called_set.mro
  have hmade := PySem.F.called_set.made
  have hsub := PySem.F.called_set.sub
  refine wpAny_call (codeAny_of_tree ?_)
  show wpAny _ _ (callAny (.type "set") _) _ _ _
  refine wpAny_pure ⟨Code.quiet_builtin _ (by decide +kernel), codeAny_builtin PySem.F.entry_type_call ?_⟩
  rw [Around.under_plain (weight_type_call_type "set" [.ref p] []) rfl]
  have h1 := PySem.F.called_set.notType
  have h2 := PySem.F.called_set.canCreate
  have hct := PySem.F.typeCall_set_1 (.ref p)
  repeat (any_goals (first | assumption | wp_step))
  let S0 : Obj := { cls := .type "set", dict := none, data := .set #[] 0 (.fresh 0 0 (!w.params.followText "set-order")) }
  refine codeAny_mono (L2.code_set_led1 (.ref p) (E := E) (Q₁ := fun obj s1 => obj = .ref s.heap.objs.size ∧ s1 = { s with heap := s.heap.push S0 }) ⟨rfl, rfl⟩) fun r s1 hr => ?_
  match r, hr with
  | .error e, hr => exact hr
  | .ok (.ret obj), hr =>
    obtain ⟨rfl, rfl⟩ := hr
    have hS : (s.heap.push S0).get? s.heap.objs.size = some S0 := Heap.get?_push_size _ rfl
    have hT : Shared.TypeIs { s with heap := s.heap.push S0 } (.ref s.heap.objs.size) "set" := ⟨_, hS, rfl⟩
    have hli := PySem.F.called_set.init.lookup
    have hbi := PySem.F.called_set.init.bind (.ref s.heap.objs.size)
    repeat (any_goals (first | assumption | wp_step))
    refine codeAny_mono (codeAny_call_builtin (R := wants (fun r s2 => r = .none ∧ ∃ (h' : Heap) (tk : Nat) (D : SD), s2 = { s with heap := h', toks := tk } ∧ h'.get? s.heap.objs.size = some (sObj "set" D) ∧ Sx P w D (once [] xs) ∧
      (∀ b o, s.heap.get? b = some o → h'.get? b = some o)) E) PySem.F.called_set.init.plain PySem.F.entry_set_init (check_set_init_1 hT ?_)) fun r2 s2 hr2 => ?_
    · have hp1 : (s.heap.push S0).IsTuple p items := hp.push _
      obtain ⟨ol, hol, hcl, nl, hdl⟩ := hp
      obtain ⟨ocls, odict, odata, oslots⟩ := ol
      simp only at hcl hdl
      subst hcl; subst hdl
      have hol' := Heap.get?_push_of_some S0 hol
      have hsls := PySem.F.sub_tuple_set
      have hslf := PySem.F.sub_tuple_frozenset
      have hne : (Value.type "tuple" == Value.type "dict") = false := by decide
      unfold Builtin.«set.__init__» noKeywords Builtin.Frozenset.updateFrom
      generalize hPI : pyIter = PI
      wp_walk
      subst hPI
      refine wpAny_pyIter_tuple hp1 ?_
      refine wpAny_bind (wpAny_runValue ?_)
      have hz1 : (s.heap.push S0).objs.size = s.heap.objs.size + 1 := Heap.size_push ..
      have hps : p < s.heap.objs.size := Heap.lt_size hol
      have nI : p ≠ (s.heap.push S0).objs.size := Nat.ne_of_lt (by rw [hz1]; exact Nat.lt_succ_of_lt hps)
      have nS : s.heap.objs.size ≠ (s.heap.push S0).objs.size := Nat.ne_of_lt (by rw [hz1]; exact Nat.lt_succ_self _)
      refine upd_txs (T := "set") (xs := xs) ((Walks.tuple (by simp [hh]) _ p nI items).toS) (a := s.heap.objs.size) ?_ hsz (fun i v hv => ?_) xs 0 (#[], 0, .fresh 0 0 (!w.params.followText "set-order")) [] _ rfl (Nat.zero_le _)
        ⟨⟨_, Heap.get?_push_size _ rfl, rfl, rfl⟩, hp1.push _⟩ (Heap.get?_push_of_some _ hS) (Sx.fresh w) (by simpa using hb) fun s' D' mv a' F' => ?_
      · simp only [List.mem_cons, List.not_mem_nil, or_false, not_or]
        exact ⟨nS, Nat.ne_of_gt hps⟩
      · obtain ⟨t, e⟩ := SS.strs_at hx i v (by rw [Array.getElem?_toList]; exact hv)
        have hi : i < xs.length := by rw [← hsz]; exact (Array.getElem?_eq_some_iff.mp hv).1
        refine ⟨xs[i], t, List.getElem?_eq_getElem hi, ?_⟩
        rw [e, List.getD_eq_getElem?_getD, List.getElem?_eq_getElem hi]
        rfl
      · obtain ⟨h', g2, d', tk', os'⟩ := s'
        have eg : g2 = s.gens := mv.gens
        have ed : d' = s.drawn := mv.drawn
        have eo : os' = s.os := mv.os
        subst eg; subst ed; subst eo
        show wpAny _ _ _ _ _ _
        refine wpAny_pure ?_
        show wpAny _ _ (ret Value.none) _ _ _
        refine wpAny_pure ⟨rfl, h', tk', D', rfl, a', F', fun b o e => ?_⟩
        have hb0 : b < s.heap.objs.size := Heap.lt_size e
        exact mv.heap b o (by simp only [List.mem_cons, List.not_mem_nil, or_false, not_or]; exact ⟨Nat.ne_of_lt hb0, Nat.ne_of_lt (by rw [hz1]; exact Nat.lt_succ_of_lt hb0)⟩) (Heap.get?_push_of_some _ (Heap.get?_push_of_some _ e))
    · match r2, hr2 with
      | .error e, hr2 => exact hr2
      | .ok (.ret r), hr2 =>
        obtain ⟨rfl, h', tk, D, rfl, g1, g2, g4⟩ := hr2
        repeat (any_goals (first | assumption | wp_step))
        exact h _ _ _ g1 g2 g4
      | .ok .next, hr2 => exact hr2.elim
      | .ok .brk, hr2 => exact hr2.elim
      | .ok .cont, hr2 => exact hr2.elim
  | .ok .next, hr => exact hr.elim
  | .ok .brk, hr => exact hr.elim
  | .ok .cont, hr => exact hr.elim

/-- the set at a, as the walk knows it -/
def SetS (P : Program) (w : World) (a : Addr) (l : List Str) : L2.HO := .ext fun h => ∃ D, h.get? a = some (sObj "set" D) ∧ Sx P w D l
end
section
open L2
variable {X : Cx}
theorem setS_new {P : Program} {w : World} {H : Hp} {h : Heap} {a : Addr} {D : SD} {l : List Str} (g : h.get? a = some (sObj "set" D)) (F : Sx P w D l) : ObjOk P w H h a (SetS P w a l) :=
  ⟨⟨D, g, F⟩, ⟨_, g⟩, fun _ _ ⟨D', g', F'⟩ k => ⟨D', k _ g', F'⟩⟩
theorem setS_get {pins : List (Addr × Obj)} {σ : L2.St} {H : Hp} {s : Shared} {a : Addr} {l : List Str} (I : Inv X pins σ H s) (ha : H a = some (SetS X.prog X.w a l)) : ∃ D, s.heap.get? a = some (sObj "set" D) ∧ Sx X.prog X.w D l := (I.hok a _ ha).1
/-- the texts of a list or a tuple -/
def TxSq (K : PySem.W.Frag) (H : Hp) (x : V) (xs : List Str) : Prop := ∃ p, x = .ref p ∧ (SqL K H p (xs.map V.str) ∨ SqT K H p (xs.map V.str))
theorem call_set_txs {A : Around} {E : Value → Shared → Prop} {pins : List (Addr × Obj)} {σ : L2.St} {H : Hp} {s : Shared} {x : V} {u : Value} {xs : List Str} {Q : Value → Shared → Prop} (I : Inv X pins σ H s) (hh : A.handled = none) (r : RelV x u) (hx : TxSq X.K H x xs) (hb : xs.length < scanBound)
    (h : SetLeft X.prog X.w s xs Q) : wpAny (model X.prog X.w) A (call (.type "set") [u]) Q E s := by
  obtain ⟨p, rfl, hq | hq⟩ := hx
  · cases r
    obtain ⟨its, rv, pl, hz⟩ := I.list hq
    exact call_set_L hh pl.isList (by simpa using rv.strs) hb h
  · cases r
    obtain ⟨its, rv, pl, hz⟩ := I.tuple hq
    exact call_set_T hh pl (by simpa using rv.strs) hb h
/-- set(xs) -/
def rSetS (K : PySem.W.Frag) (P : Program) (w : World) : List V → Hp → VK → Prop := fun vs H Q => ∃ x xs, vs = [x] ∧ TxSq K H x xs ∧ xs.length < 64 ∧ ∀ a, H a = none → Q (.ref a) (upd H a (SetS P w a (once [] xs)))
theorem cr_setS (hc : X.calm = true) : CallR X (.type "set") (rSetS X.K X.prog X.w) := by
  intro pins s σ H vs us Q I r h
  obtain ⟨x, xs, rfl, hx, h64, q⟩ := h
  obtain ⟨u, rfl, rx⟩ := vals1 r
  refine call_set_txs I (I.ok.hd hc) rx hx (by unfold scanBound; omega) fun h' tk D g F k => ?_
  exact ⟨.ref _, upd H s.heap.objs.size (SetS X.prog X.w s.heap.objs.size (once [] xs)), I.laid (t' := tk) k (Nat.le_refl _) (setS_new g F), rfl, q _ (I.hok.fresh (Nat.le_refl _))⟩
/-- len(set(e)) -/
def tLenSetS (K : PySem.W.Frag) (ta : TE) : TE := fun σ H Q => ta σ H fun x H1 => ∃ xs, TxSq K H1 x xs ∧ xs.length < 64 ∧ Q (.int ((once [] xs).length : Nat)) H1
theorem once_len : ∀ (xs l : List Str), (once l xs).length ≤ l.length + xs.length
  | [], l => Nat.le_refl _
  | c :: r, l => by
    unfold once
    rw [List.foldl_cons]
    have h1 := once_len r l
    have h2 := once_len r (c :: l)
    unfold once at h1 h2
    split
    · simp only [List.length_cons] at h1 ⊢; omega
    · simp only [List.length_cons] at h2 ⊢; omega
theorem once_mem : ∀ (xs l : List Str) (x : Str), x ∈ once l xs ↔ x ∈ l ∨ x ∈ xs
  | [], l, x => by simp [once]
  | c :: r, l, x => by
    unfold once
    rw [List.foldl_cons]
    have h1 := once_mem r l x
    have h2 := once_mem r (c :: l) x
    unfold once at h1 h2
    split
    · rename_i m
      rw [h1, List.mem_cons]
      constructor
      · rintro (z | z)
        · exact .inl z
        · exact .inr (.inr z)
      · rintro (z | rfl | z)
        · exact .inl z
        · exact .inl m
        · exact .inr z
    · rw [h2, List.mem_cons, List.mem_cons, or_assoc, or_left_comm]
theorem once_nodup : ∀ (xs l : List Str), l.Nodup → (once l xs).Nodup
  | [], l, h => h
  | c :: r, l, h => by
    unfold once
    rw [List.foldl_cons]
    split
    · exact once_nodup r l h
    · rename_i m
      exact once_nodup r (c :: l) (List.nodup_cons.mpr ⟨m, h⟩)
theorem once_free : ∀ (xs l : List Str), xs.Nodup → (∀ x ∈ xs, x ∉ l) → (once l xs).length = l.length + xs.length
  | [], l, _, _ => rfl
  | c :: r, l, h, d => by
    obtain ⟨h1, h2⟩ := List.nodup_cons.mp h
    unfold once
    rw [List.foldl_cons, if_neg (d c (List.mem_cons_self ..))]
    have := once_free r (c :: l) h2 fun x hx m => by
      rcases List.mem_cons.mp m with z | z
      · exact h1 (z ▸ hx)
      · exact d x (List.mem_cons_of_mem _ hx) z
    unfold once at this
    rw [this, List.length_cons, List.length_cons]
    omega
theorem pe_lenSetS {a : Expr} {ta : TE} {p p2 q pos : Pos} (hg : Gl X "len") (hm : X.mg "len" = none) (hg2 : Gl X "set") (hm2 : X.mg "set" = none) (ha : PE X a ta) (hc : X.calm = true := by rfl)
    (na : starEach [a] X.env = (false, eval a X.env) :: starEach [] X.env := by rfl) : PE X (.Call (.Name "len" p) [.Call (.Name "set" p2) [a] [] q] [] pos) (tLenSetS X.K ta) := by
  refine ⟨fun pins s σ H Q I h => ?_⟩
  refine Call_ (ld_blt I hg hm boot_len ?_)
  refine PyProof.Rows.callWith_builtin1 (PyProof.Rows.args_cons ?_ rfl) rfl rfl
  refine Call_ (ld_blt I hg2 hm2 (show bootBuiltins ("set" : Str) = some (.type "set") by decide +kernel) ?_)
  refine PyProof.Rows.callWith_type1 (PyProof.Rows.args_cons (thn (ha.run pins s σ H _ I h) fun v s1 ⟨x, H1, I1, r1, q1⟩ => PyProof.Rows.args_nil ?_) na) na rfl
  obtain ⟨xs, hx, h64, q1⟩ := q1
  refine call_set_txs I1 (I1.ok.hd hc) r1 hx (by unfold scanBound; omega) fun h' tk D g1 F k => ?_
  refine PyProof.Rows.args_nil ?_
  have I2 : Inv X pins σ H1 { s1 with heap := h', toks := tk } := I1.kept k
  have hn : D.1.size = (once [] xs).length := F.tx.sz
  have hl := once_len xs []
  simp only [List.length_nil, Nat.zero_add] at hl
  exact call_len_set (es := D.1) (ep := D.2.1) (t := D.2.2) g1 ⟨rfl, rfl, rfl⟩ rfl F.tx.fit (by rw [hn]; omega) ⟨.int (once [] xs).length, H1, I2.tok _, ⟨_, by rw [hn]⟩, q1⟩
/-- sorted(the set) -/
def rSortSet (P : Program) (w : World) : List V → Hp → VK → Prop := fun vs H Q => ∃ a l, vs = [.ref a] ∧ H a = some (SetS P w a l) ∧ l.length < 64 ∧ ∀ (ys : List Str) (p : Addr), ys.Perm l → sortedS ys = true → H p = none → Q (.ref p) (upd H p (.lst (ys.map V.str)))
theorem perm_by : ∀ (l ks : List Str), l.Nodup → (∀ x ∈ l, x ∈ ks) → ks.length ≤ l.length → l.Perm ks
  | [], ks, _, _, h => by
    rw [List.length_eq_zero_iff.mp (Nat.le_zero.mp h)]
  | c :: r, ks, d, m, h => by
    obtain ⟨d1, d2⟩ := List.nodup_cons.mp d
    have hc := m c (List.mem_cons_self ..)
    have hl := List.length_erase_of_mem hc
    have := perm_by r (ks.erase c) d2 (fun x hx => (List.mem_erase_of_ne (fun e : x = c => d1 (by rw [← e]; exact hx))).mpr (m x (List.mem_cons_of_mem _ hx))) (by rw [hl]; simp only [List.length_cons] at h; omega)
    exact (this.cons c).trans (List.perm_cons_erase hc).symm
theorem txs_of : ∀ (vs : List Value), (∀ v ∈ vs, ∃ x t, v = Value.str x t) → ∃ ks : List Str, StrsAre vs ks
  | [], _ => ⟨[], .nil⟩
  | v :: vs, h => by
    obtain ⟨ks, hk⟩ := txs_of vs fun x hx => h x (List.mem_cons_of_mem _ hx)
    obtain ⟨x, t, rfl⟩ := h v (List.mem_cons_self ..)
    exact ⟨x :: ks, .cons x t hk⟩
theorem strs_mem : ∀ {vs : List Value} {ks : List Str}, StrsAre vs ks → ∀ x t, Value.str x t ∈ vs → x ∈ ks
  | _, _, .nil, x, t, h => absurd h (List.not_mem_nil)
  | _, _, .cons y u r, x, t, h => by
    rcases List.mem_cons.mp h with e | m
    · cases e; exact List.mem_cons_self ..
    · exact List.mem_cons_of_mem _ (strs_mem r x t m)
theorem cr_sortSet (hc : X.calm = true) : CallR X (.builtin "sorted") (rSortSet X.prog X.w) := by
  intro pins s σ H vs us Q I r h
  obtain ⟨a, l, rfl, ha, h64, q⟩ := h
  obtain ⟨D, g, F⟩ := setS_get I ha
  rw [Vals.ref1 r]
  have sz : D.1.size = l.length := F.tx.sz
  refine Calls.call_function_entry PyProof.Rows.kind_sorted PyProof.Rows.plain_sorted PyProof.Rows.entry_sorted (PyProof.Rows.args_sorted1 _) ?_
  unfold Builtin.«sorted»
  refine wpAny_bind (m := checkCount "sorted" 1 1 _) (wpAny_pure ?_)
  refine wpAny_bind (L2.collect_set (A := X.A.in1) (es := D.1) (ep := D.2.1) (t := D.2.2) (I.ok.hd hc) ⟨_, g, rfl, rfl⟩ F.tx.fit (by unfold scanBound; omega) F.ris F.led fun s1 out k1 hz g1 o1 pm => ?_)
  have texts : ∀ v ∈ out, ∃ x t, v = Value.str x t := fun v hv => by
    obtain ⟨e, he, rfl⟩ := List.mem_map.mp (pm.mem_iff.mp hv)
    obtain ⟨⟨k, hk, _⟩, _⟩ := F.tx.el e he
    obtain ⟨t, ev⟩ := Value.isStrOf_shape (x := k) (v := e.2) hk
    exact ⟨k, t, ev⟩
  obtain ⟨ks, hS⟩ := txs_of out texts
  have hol : out.length = l.length := by rw [pm.length_eq, List.length_map, Array.length_toList]; exact sz
  have kp : l.Perm ks := perm_by l ks F.nd (fun x hx => by
    obtain ⟨e, he, hk⟩ := (F.tx.mem x).mp hx
    obtain ⟨t, ev⟩ := Value.isStrOf_shape (x := x) (v := e.2) hk
    exact strs_mem hS x t (by rw [← ev]; exact pm.mem_iff.mpr (List.mem_map_of_mem he))) (by rw [← hS.length, hol]; exact Nat.le_refl _)
  have hlen0 : out.length < 64 := by rw [hol]; exact h64
  have I1 : Inv X pins σ H s1 := I.call' (ch := []) o1 (Un.kept k1) (I.hok.kept k1) (by rw [g1]; exact I.bare) (fun _ z => nomatch z)
  refine wpAny_bind (wpAny_newList ?_ (by rw [sizeLine_eq]; omega))
  have hoL : (s1.heap.push (seqObj "list" out.toArray 0)).get? s1.heap.objs.size = some (seqObj "list" out.toArray 0) := Heap.get?_push_size _ rfl
  refine wpAny_bind (wpAny_holding (wpAny_call_entry PyProof.Rows.slot_list_sort ⟨_, hoL, rfl⟩ PyProof.Rows.entry_list_sort
    (list_sort_treeK strKind_oneLt (s := { s1 with heap := s1.heap.push (seqObj "list" out.toArray 0) }) hoL hS.keysOf (fun v₁ v₂ rest e => keyKind_strs (by rw [← e]; exact hS)) hlen0 fun st' hp hs => ⟨_, rfl, ?_⟩)
    (PyProof.Rows.args_list_sort _)))
  obtain ⟨ys, p1, p2, p3⟩ := sorted_out_str hS hp hs
  obtain ⟨e', he'⟩ := PyProof.Rows.sortedHeap_at (vs := out) (out := (arrOf st').map (·.2)) hoL
  have hlen : (ys.map V.str).length ≤ sizeLine := by
    rw [List.length_map, p2.length_eq, kp.symm.length_eq]
    exact Nat.le_trans (Nat.le_of_lt h64) (by decide)
  refine wpAny_pure ⟨_, rfl, .ref s1.heap.objs.size, upd H s1.heap.objs.size (.lst (ys.map V.str)), I1.laid (t' := s1.toks) (fun b u e => ?_) (Nat.le_refl _)
    (show ObjOk X.prog X.w _ _ _ (.lst (ys.map V.str)) from ⟨hlen, ((arrOf st').map (·.2)).toList, e', vals_of_strs p1, by rw [Array.toArray_toList]; exact he'⟩), rfl, q ys _ (p2.trans kp.symm) p3 (I1.hok.fresh (Nat.le_refl _))⟩
  have hb : b < s1.heap.objs.size := Heap.lt_size e
  rw [PyProof.Rows.sortedHeap_old (Nat.ne_of_lt hb) (by rw [size_push']; exact Nat.lt_succ_of_lt hb)]
  exact Heap.get?_push_of_some _ e
end
end FR
set_option Elab.async false
set_option linter.all false
set_option maxRecDepth 100000
set_option maxHeartbeats 4000000
/-! {elt for t0 in i0 for t1 in i1}: a set of texts by two clauses -/
namespace FR
open PySem PySem.Spec PyProof.Rows PySem.Froz L2
abbrev Sl := L2.St
/-- one turn of a clause without tests: B is what it does with an item -/
def turnOf (p : Pos) (tg : Expr) (it : Value) (env : Env) (B : Sem Unit) (ag : Sem Fin) : Sem Fin := do
  standAt p
  match ← pyNext it with
  | none => pure (.done .next)
  | some v =>
    letOwnedTupleGo tg it v
    assign tg env v
    B
    ag
theorem turn_1 (elt t0 i0 t1 i1 : Expr) (scope : Scope) (pos : Pos) (it acc : Value) (env : Env) :
    compTurn (.SetComp elt [⟨t0, i0, [], 0⟩, ⟨t1, i1, [], 0⟩] scope pos) 1 it acc env =
      turnOf i1.pos t1 it env (do let v ← eval elt env; standAt elt.pos; let _ ← call (.builtin "set.add") [acc, v]) (again (.compLoop (.SetComp elt [⟨t0, i0, [], 0⟩, ⟨t1, i1, [], 0⟩] scope pos) 1 it acc env)) := rfl
theorem turn_0 (elt t0 i0 t1 i1 : Expr) (scope : Scope) (pos : Pos) (it acc : Value) (env : Env) :
    compTurn (.SetComp elt [⟨t0, i0, [], 0⟩, ⟨t1, i1, [], 0⟩] scope pos) 0 it acc env =
      turnOf i0.pos t0 it env (do
        let x ← eval i1 env
        standAt i1.pos
        let x ← foldedSetIterable i1 env x
        let _ ← runOwn (.compStart (.SetComp elt [⟨t0, i0, [], 0⟩, ⟨t1, i1, [], 0⟩] scope pos) 1 (← holding [x] (pyIter x)) acc env) env) (again (.compLoop (.SetComp elt [⟨t0, i0, [], 0⟩, ⟨t1, i1, [], 0⟩] scope pos) 0 it acc env)) := by
  unfold turnOf
  simp only [bind_assoc, pure_bind]
  rfl
/-- the slots of τ know what those of σ know -/
def Kn (σ τ : Sl) : Prop := τ.length = σ.length ∧ ∀ (j : Nat) v, σ[j]? = some (some v) → τ[j]? = some (some v)
theorem kn_wipe {σ τ : Sl} {vs : List Nat} (h : wipe τ vs = wipe σ vs) : Kn (wipe σ vs) τ := ⟨by rw [← h, wipe_length], fun j v e => by rw [← h] at e; exact (wipe_some e).1⟩
theorem kn_in {σ τ : Sl} {vs ws : List Nat} (h : wipe τ vs = wipe σ vs) (sub : ∀ i ∈ ws, i ∈ vs) : Kn (wipe σ vs) (wipe τ ws) := ⟨by rw [← h, wipe_length, wipe_length], fun j v e => by
  rw [← h] at e
  obtain ⟨e1, e2⟩ := wipe_some e
  rw [wipe_out fun z => e2 (sub j z)]
  exact e1⟩
theorem Inv.known {X : Cx} {pins : List (Addr × Obj)} {σ τ : Sl} {H : Hp} {s : Shared} (I : Inv X pins τ H s) (k : Kn σ τ) : Inv X pins σ H s := I.weak k.1.symm k.2
section
variable {Y : Cx}
/-- what one turn needs -/
def Round (J : It) (g : TG) (σ0 : Sl) (B : Sl → Hp → (Hp → Prop) → Prop) (Qd : Hp → Prop) (W : Nat → Nat → Hp → Prop) : Prop := ∀ i m H, W i m H →
  (J.stop i H ∧ Qd H) ∨ (J.go i H ∧ ∃ Nx : Hp → Prop, (∀ H', Nx H' → ∃ m', m' < m ∧ W (i + 1) m' H') ∧ ∀ x H', J.yld i H x H' → g x σ0 H' fun σ2 H2 => B σ2 H2 Nx)
theorem clause {k : Nat} {e tg elt : Expr} {gens : List Comprehension} {scope : Scope} {pos p : Pos} {g : TG} {B : Sem Unit} {Bt : Sl → Hp → (Hp → Prop) → Prop} {it D : Addr} {fp : List Addr} {tn : Nat → Heap → Prop} {J : It} {Qd : Hp → Prop} {W : Nat → Nat → Hp → Prop} {pins : List (Addr × Obj)} {σ0 : Sl} {R : Result → Shared → Prop}
    (he : e = .SetComp elt gens scope pos) (hc : Y.calm = true) (hx : Y.xe = fun _ _ => False) (hq : (Code.compLoop e k (.ref it) (.ref D) Y.env).quiet = true) (eq : compTurn e k (.ref it) (.ref D) Y.env = turnOf p tg (.ref it) Y.env B (again (.compLoop e k (.ref it) (.ref D) Y.env)))
    (T : Turn Y.prog Y.w Y.K tg J fp it tn) (pg : PG Y tg g)
    (body : ∀ (pins' : List (Addr × Obj)) (s : Shared) (σ2 : Sl) (H : Hp) (Nx : Hp → Prop), Inv Y pins' σ2 H s → Bt σ2 H Nx → wpAny (model Y.prog Y.w) Y.A B (fun _ s' => ∃ σ3 H', Inv Y pins' σ3 H' s' ∧ Kn σ0 σ3 ∧ Nx H') (fun _ _ => False) s)
    (rd : Round J g σ0 Bt Qd W) (hR : ∀ s' H', Inv Y pins σ0 H' s' → Qd H' → R (.ok .next) s')
    {m : Nat} {H : Hp} {s : Shared} (I : Inv Y pins σ0 H s) (st : tn 0 s.heap) (hf : ∀ b ∈ fp, FpOk Y pins H b) (w : W 0 m H) : codeAny (model Y.prog Y.w) Y.A (.compLoop e k (.ref it) (.ref D) Y.env) R s := by
  subst he
  have ok : ∀ {H' : Hp}, (∀ b ∈ fp, H' b = none) → ∀ b ∈ fp, FpOk Y pins H' b := fun n b hb => ⟨n b hb, (hf b hb).2⟩
  refine codeAny_loop hq (fun n s' => ∃ i H', Inv Y pins σ0 H' s' ∧ tn i s'.heap ∧ (∀ b ∈ fp, H' b = none) ∧ W i n H') ?_ m ⟨0, H, I, st, fun b hb => (hf b hb).1, w⟩
  rintro n s5 ⟨i, H5, I5, st5, n5, w5⟩
  show wpAny _ Y.A ((compTurn (.SetComp elt gens scope pos) k (.ref it) (.ref D) Y.env).onRaise (fun x => do noteFrame x Y.env; theTreesLotGoes x)) _ _ s5
  refine wpAny_noted ?_
  rw [eq]
  unfold turnOf
  refine wpAny_bind (wpAny_standAt (wpAny_bind ?_))
  rcases rd i n H5 w5 with ⟨stop, q⟩ | ⟨go, Nx, on, step⟩
  · refine thnF (T.done Y rfl rfl rfl hc i pins s5 σ0 H5 (fun _ _ => False) I5 (ok n5) st5 stop) fun r s6 ⟨hr, I6⟩ => ?_
    subst hr
    exact wpAny_pure (hR s6 H5 I6 q)
  · refine thnF (T.item Y rfl rfl rfl hc i pins s5 σ0 H5 (fun _ _ => False) I5 (ok n5) st5 go) fun r s6 ⟨u, hr, h6⟩ => ?_
    subst hr
    refine wpAny_bind (thnF h6 fun _ s7 ⟨x, H7, I7, r7, y7, st7, n7⟩ => ?_)
    have I7' := I7.pinned (ok n7) (T.obj _ _ st7)
    have run := pg.run _ s7 σ0 H7 x u _ I7' r7 (step x H7 y7)
    rw [hx] at run
    refine wpAny_bind (thnF run fun _ s8 ⟨σ8, H8, I8, q8⟩ => ?_)
    refine wpAny_bind (thnF (body _ s8 σ8 H8 Nx I8 q8) fun _ s9 ⟨σ9, H9, I9, kn, nx⟩ => ?_)
    obtain ⟨m', hm, w'⟩ := on H9 nx
    have there : ∀ b ∈ fp, ∀ o, s7.heap.get? b = some o → s9.heap.get? b = some o ∧ H9 b = none := fun b hb o e =>
      let z := I9.pin (b, o) (List.mem_append_right _ (List.mem_append_right _ (mem_pinsAt hb e)))
      ⟨z.1, z.2.1⟩
    refine wpAny_pure ⟨rfl, m', hm, i + 1, H9, Inv.known I9.unpinned kn, T.keep _ _ _ st7 fun b hb o e => (there b hb o e).1, fun b hb => ?_, w'⟩
    obtain ⟨o, e, _⟩ := T.obj _ _ st7 b hb
    exact (there b hb o e).2
/-- set.add of a text -/
theorem add_text {A : Around} {E : Value → Shared → Prop} {pins : List (Addr × Obj)} {σ : Sl} {H : Hp} {s : Shared} {D : Addr} {l : List Str} {x : Str} {u : Tok} {Q : Value → Shared → Prop} (I : Inv Y pins σ H s) (hD : H D = some (SetS Y.prog Y.w D l)) (room : l.length + 1 < scanBound)
    (h : ∀ s', Inv Y pins σ (upd H D (SetS Y.prog Y.w D (once l [x]))) s' → Q .none s') : wpAny (model Y.prog Y.w) A (call (.builtin "set.add") [.ref D, .str x u]) Q E s := by
  obtain ⟨P, g, F⟩ := setS_get I hD
  have hT : s.TypeIs (.ref D) "set" := ⟨_, g, rfl⟩
  have same : once l [x] = if x ∈ l then l else x :: l := rfl
  rw [same] at h
  refine wpAny_call_entry PySem.F.slot_set_add hT PySem.F.entry_set_add ?_ (PySem.F.args_set_add_2 _ _)
  unfold Builtin.«set.add» Builtin.Frozenset.oneOther
  simp only [List.isEmpty_nil, bind_assoc]
  unfold Builtin.Frozenset.addrOf setAdd
  refine wpAny_bind (wpAny_pure ?_)
  try dsimp only
  refine wpAny_bind (wpAny_pure ?_)
  try dsimp only
  refine wpAny_bind (wpAny_holding (wpAny_bind ((strKind Y.prog Y.w).pyHash (k := x) (is_str _ _) ?_)))
  by_cases m : x ∈ l
  · rw [if_pos m] at h
    refine add_there (s := { s with toks := s.toks + 1 }) g F.tx m (by omega) ?_
    show wpAny _ _ (ret Value.none) _ _ _
    refine wpAny_pure ⟨_, rfl, h _ ?_⟩
    have e : upd H D (SetS Y.prog Y.w D l) = H := by
      funext b
      unfold upd
      split
      · rename_i z; rw [z]; exact hD.symm
      · rfl
    rw [e]
    exact I.tok _
  · rw [if_neg m] at h
    refine add_x (l := l) (D := P) (s := { s with toks := s.toks + 1 }) g F.tx m room ?_
    show wpAny _ _ (ret Value.none) _ _ _
    refine wpAny_pure ⟨_, rfl, h _ (I.write (e := D) (t' := s.toks + 1) (by rw [hD]; trivial) (.inl rfl) (fun b o n e => PySem.Heap.get?_update_of_ne _ (Ne.symm n) e) ⟨_, get_upd _ g rfl⟩ (setS_new (get_upd _ g rfl) (F.add u m)))⟩
end
section
variable {prog : Program} {w : World} {A : Around} {R : Result → Shared → Prop} {s : Shared} {elt t0 i0 t1 i1 : Expr} {scope : Scope} {pos : Pos} {it acc : Value} {env : Env}
theorem start_1 (h0 : codeAny (model prog w) A (.compLoop (.SetComp elt [⟨t0, i0, [], 0⟩, ⟨t1, i1, [], 0⟩] scope pos) 1 it acc env) R s)
    (h : wpAny (model prog w) A (pyIter it) (fun it' s' => codeAny (model prog w) A (.compLoop (.SetComp elt [⟨t0, i0, [], 0⟩, ⟨t1, i1, [], 0⟩] scope pos) 1 it' acc env) R s') (notedBy (model prog w) A env fun x s' => R (.error x) s') s) :
    codeAny (model prog w) A (.compStart (.SetComp elt [⟨t0, i0, [], 0⟩, ⟨t1, i1, [], 0⟩] scope pos) 1 it acc env) R s := by
  refine codeAny_of_tree ?_
  show wpAny _ _ ((compStart (.SetComp elt [⟨t0, i0, [], 0⟩, ⟨t1, i1, [], 0⟩] scope pos) 1 it acc env).onRaise (fun x => do noteFrame x env; standAt theWindowsPlace)) _ _ s
  refine wpAny_notedAt ?_
  unfold compStart
  show wpAny _ _ (ask >>= _) _ _ s
  refine wpAny_bind (wpAny_askSetting (wpAny_ite ?_))
  split
  · first | exact wpAny_bind (wpAny_pure (wpAny_pure ⟨rfl, h0⟩)) | exact wpAny_pure ⟨rfl, h0⟩
  · refine wpAny_bind (wpAny_rule ?_)
    show wpAny _ _ (standAt i1.pos >>= _) _ _ s
    exact wpAny_bind (wpAny_standAt (wpAny_bind (wpAny_mono h (fun it' s' h' => wpAny_pure ⟨rfl, h'⟩) fun _ _ x => x)))
end
section
variable {X : Cx}
/-- {elt for t0 in i0 for t1 in i1}; vs: the block's names, vs1: those of t1 -/
def tSc2 (P : Program) (w : World) (wi : TI) (g : TG) (wi1 : TI) (g1 : TG) (te : TE) (vs vs1 : List Nat) : TE := fun σ H Q => wi σ H fun J H1 => ∀ D, H1 D = none → ∃ W : Nat → Nat → Hp → Prop, (∃ m, W 0 m (upd H1 D (SetS P w D []))) ∧
  Round J g (wipe σ vs) (fun σ2 H2 Nx => wipe σ2 vs = wipe σ vs ∧ wi1 σ2 H2 fun J1 H3 => ∃ W1 : Nat → Nat → Hp → Prop, (∃ m, W1 0 m H3) ∧
    Round J1 g1 (wipe σ2 vs1) (fun σ3 H5 Nx1 => wipe σ3 vs1 = wipe σ2 vs1 ∧ te σ3 H5 fun y H6 => ∃ x l, y = .str x ∧ H6 D = some (SetS P w D l) ∧ l.length + 1 < scanBound ∧ Nx1 (upd H6 D (SetS P w D (once l [x])))) Nx W1) (Q (.ref D)) W
theorem pe_sc2 {elt t0 i0 t1 i1 : Expr} {scope : Scope} {own : List (Str × Nat)} {vs1 : List Nat} {pos : Pos} {wi wi1 : TI} {g g1 : TG} {te : TE} (hc : X.calm = true) (hN : X.N.Nodup) (hi : PI X t0 i0 wi) (ok : BlkOk X.N X.env.scope scope own) (hv : ∀ i ∈ vs1, i ∈ own.map (·.2))
    (hg : ∀ (s : Shared) (H : Hp) (C : Addr) (cl : List (Str × Addr)) (fp : List Addr), PG (X.blk s H scope (compEnvC scope cl C X.env) fp) t0 g)
    (hi1 : ∀ (s : Shared) (H : Hp) (C : Addr) (cl : List (Str × Addr)) (fp : List Addr), PI (X.blk s H scope (compEnvC scope cl C X.env) fp) t1 i1 wi1)
    (hg1 : ∀ (s : Shared) (H : Hp) (C : Addr) (cl : List (Str × Addr)) (fp : List Addr), PG (X.blk s H scope (compEnvC scope cl C X.env) fp) t1 g1)
    (he : ∀ (s : Shared) (H : Hp) (C : Addr) (cl : List (Str × Addr)) (fp : List Addr), PE (X.blk s H scope (compEnvC scope cl C X.env) fp) elt te)
    (hs : ∀ x, foldedSetIterable i0 X.env x = pure x := by intro _; rfl) (hs1 : ∀ env x, foldedSetIterable i1 env x = pure x := by intro _ _; rfl) :
    PE X (.SetComp elt [⟨t0, i0, [], 0⟩, ⟨t1, i1, [], 0⟩] scope pos) (tSc2 X.prog X.w wi g wi1 g1 te (own.map (·.2)) vs1) := by
  refine ⟨fun pins s σ H Q I h => ?_⟩
  have hfree : ∀ y ∈ scope.names, y.2 = .free → ∃ c, X.env.cells.lookup y.1 = some c := fun y hy e => I.ok.has _ (ok.free y hy e)
  show wpAny _ _ (comprehension _ _ _ _ _ _ _) _ _ _
  refine wpAny_comprehension_free (use := none) rfl hs (closure_ok hfree) ok.kind (fun y hy e => by rw [ok.uniq y hy, e]) (thn (hi.run pins s σ H _ I h) fun xv s1 hx => thn hx fun itv s2 h2 => ?_)
  obtain ⟨it, fp, tn, J, H2, rfl, I2, T, st2, f2, q⟩ := h2
  refine PpSet.newSet_ok (newEnv_comp ?_)
  generalize hD : s2.heap.objs.size = D
  have hDn : H2 D = none := I2.hok.fresh (Nat.le_of_eq hD)
  obtain ⟨W, ⟨m0, w0⟩, rd⟩ := q D hDn
  let S0 : Obj := { cls := .type "set", dict := none, data := .set #[] 0 (.fresh 0 0 (!X.w.params.followText "set-order")) }
  generalize hs3 : ({ s2 with heap := s2.heap.push S0 } : Shared) = s3
  generalize hH3 : upd H2 D (SetS X.prog X.w D []) = H3 at w0
  have h3 : s3.heap = s2.heap.push S0 := by rw [← hs3]
  have I3 : Inv X pins σ H3 s3 := by
    rw [← hs3, ← hH3]
    refine I2.laid (t' := s2.toks) (fun b o e => Heap.get?_push_of_some _ e) (Nat.le_of_eq hD) ?_
    rw [← hD]
    exact setS_new (D := (#[], 0, .fresh 0 0 (!X.w.params.followText "set-order"))) (Heap.get?_push_size _ rfl) (Sx.fresh X.w)
  have f3 : ∀ b ∈ fp, FpOk X pins H3 b ∧ b < s3.heap.objs.size := fun b hb => by
    obtain ⟨o, e, _⟩ := T.obj _ _ st2 b hb
    have lt := Heap.lt_size e
    refine ⟨⟨?_, (f2 b hb).2⟩, by rw [h3, Heap.size_push]; exact Nat.lt_succ_of_lt lt⟩
    rw [← hH3, upd_ne (by rw [← hD]; exact Nat.ne_of_lt lt)]
    exact (f2 b hb).1
  have I4 := block_start I3 ok hN f3
  have keep4 : ∀ b o, s2.heap.get? b = some o → (pushCells (s3.heap.push { cls := .type "dict", data := .dict #[] }) scope.names).get? b = some o := fun b o e => pushCells_keeps _ _ _ _ (Heap.get?_push_of_some _ (by rw [h3]; exact Heap.get?_push_of_some _ e))
  show codeAny _ _ (.compStart (.SetComp elt [⟨t0, i0, [], 0⟩, ⟨t1, i1, [], 0⟩] scope pos) 0 (.ref it) (.ref D) (compEnvC scope (cellsFrom (s3.heap.objs.size + 1) scope.names (cloFrom X.env.cells scope.names [])) s3.heap.objs.size X.env)) _ { s3 with heap := pushCells (s3.heap.push { cls := .type "dict", data := .dict #[] }) scope.names }
  have pg := hg s3 H3 s3.heap.objs.size (cellsFrom (s3.heap.objs.size + 1) scope.names (cloFrom X.env.cells scope.names [])) fp
  have pe := he s3 H3 s3.heap.objs.size (cellsFrom (s3.heap.objs.size + 1) scope.names (cloFrom X.env.cells scope.names [])) fp
  have pi1 := hi1 s3 H3 s3.heap.objs.size (cellsFrom (s3.heap.objs.size + 1) scope.names (cloFrom X.env.cells scope.names [])) fp
  have pg1 := hg1 s3 H3 s3.heap.objs.size (cellsFrom (s3.heap.objs.size + 1) scope.names (cloFrom X.env.cells scope.names [])) fp
  generalize hce : compEnvC scope (cellsFrom (s3.heap.objs.size + 1) scope.names (cloFrom X.env.cells scope.names [])) s3.heap.objs.size X.env = ce at I4 pg pe pi1 pg1 ⊢
  have cL : ce.locals = s3.heap.objs.size := by subst hce; rfl
  generalize hs4 : ({ s3 with heap := pushCells (s3.heap.push { cls := .type "dict", data := .dict #[] }) scope.names } : Shared) = s4 at I4 ⊢
  have st4 : tn 0 s4.heap := T.keep _ _ _ st2 fun b _ o e => by rw [← hs4]; exact keep4 b o e
  have nfp : ∀ b ∈ fp, H3 b = none := fun b hb => (f3 b hb).1.1
  have fY : ∀ b ∈ fp, FpOk (X.blk s3 H3 scope ce fp) [] H3 b := fun b hb =>
    ⟨nfp b hb, (I4.ok.exf b hb).1, I4.ok.exfs b hb, .inl hb, fun x c e => (I4.ok.exf b hb).2 x c e, fun p hp => absurd (show p ∈ ([] : List (Addr × Obj)) ++ [] from hp) (by simp)⟩
  have loop : codeAny (model X.prog X.w) X.A (.compLoop (.SetComp elt [⟨t0, i0, [], 0⟩, ⟨t1, i1, [], 0⟩] scope pos) 0 (.ref it) (.ref D) ce) (compPost (model X.prog X.w) X.A X.xe none (fun v s' => ∃ x H', Inv X pins σ H' s' ∧ RelV x v ∧ Q x H') (.ref D) s3.heap.objs.size) s4 := by
    refine clause (Y := X.blk s3 H3 scope ce fp) rfl hc rfl rfl (turn_0 elt t0 i0 t1 i1 scope pos (.ref it) (.ref D) ce) T pg ?_ rd ?_ I4 st4 fY w0
    · intro pins' s5 σ5 H5 Nx I5 q5
      obtain ⟨hw5, q5⟩ := q5
      refine wpAny_bind (thnF (pi1.run _ s5 σ5 H5 _ I5 q5) fun xv s6 hx => ?_)
      refine wpAny_bind (wpAny_standAt (wpAny_bind (wpAny_of_eq (hs1 ce xv) (wpAny_bind (wpAny_holding (thnF hx fun itv s7 h7 => ?_))))))
      obtain ⟨it1, fp1, tn1, J1, H7, rfl, I7, T1, st7, f7, W1, ⟨m1, w1⟩, rd1⟩ := h7
      refine wpAny_bind (wpAny_runOwn ?_)
      rw [Around.mark_none]
      have loop1 : codeAny (model X.prog X.w) X.A (.compLoop (.SetComp elt [⟨t0, i0, [], 0⟩, ⟨t1, i1, [], 0⟩] scope pos) 1 (.ref it1) (.ref D) ce)
          (fun r s' => match r with
            | .ok _ => ∃ σ3 H', Inv (X.blk s3 H3 scope ce fp) pins' σ3 H' s' ∧ Kn (wipe σ (own.map (·.2))) σ3 ∧ Nx H'
            | .error _ => False) s7 := by
        refine clause (Y := X.blk s3 H3 scope ce fp) rfl hc rfl rfl (turn_1 elt t0 i0 t1 i1 scope pos (.ref it1) (.ref D) ce) T1 pg1 (σ0 := wipe σ5 vs1) ?_ rd1 (fun s9 H9 I9 q9 => ⟨_, H9, I9, kn_in hw5 hv, q9⟩) (Inv.known I7 (kn_wipe rfl)) st7 f7 w1
        intro pins8 s8 σ8 H8 Nx1 I8 q8
        obtain ⟨hw8, q8⟩ := q8
        refine wpAny_bind (thnF (pe.run _ s8 σ8 H8 _ I8 q8) fun v s9 ⟨y, H9, I9, r9, x, l, ey, hD9, room, nx⟩ => ?_)
        subst ey
        obtain ⟨u, rfl⟩ := r9
        refine wpAny_bind (wpAny_standAt (wpAny_bind ?_))
        exact add_text (Y := X.blk s3 H3 scope ce fp) I9 hD9 room fun s10 I10 => wpAny_pure ⟨σ8, _, I10, kn_wipe hw8, nx⟩
      refine codeAny_mono (start_1 loop1 (T1.self X.A 0 _ _ _ st7 loop1)) fun r s' hr => ?_
      cases r with
      | ok f => exact wpAny_pure hr
      | error e => exact hr.elim
    · intro s6 H6 I6 q6
      have I7 : Inv X pins σ H6 s6 := I3.call' (ch := fp) I6.os I6.base I6.hok I6.bare fun b hb => ⟨(f3 b hb).1.2.2.2.1, (f3 b hb).1.2.1, (f3 b hb).1.2.2.2.2.1, (f3 b hb).1.2.2.2.2.2⟩
      have nC : H6 s3.heap.objs.size = none := by
        have z : H6 ce.locals = none := I6.free
        rw [cL] at z
        exact z
      obtain ⟨m, hn, _⟩ := I6.loc
      have hn : s6.heap.Ns ce.locals m := hn
      rw [cL] at hn
      obtain ⟨a0, a1, a2, a3, a4, a5⟩ := I3.fpOk (Nat.le_refl _) nC
      exact ⟨m, hn, fun h'' sb => ⟨.ref D, H6, I7.turned (t' := s6.toks) (fun b o hb e => (sb.2 b hb).trans e) a0 a1 a3 a4 a5, rfl, q6⟩⟩
  exact PpSet.codeAny_compStart_set loop (T.self X.A 0 _ _ _ st4 loop)
end
end FR
set_option Elab.async false
set_option linter.all false
set_option maxRecDepth 100000
set_option maxHeartbeats 4000000
/-! not in an own object; a list's slice by a step of one or minus one; sum(lists, start=[]) -/
namespace FR
open PySem PySem.Spec PyProof.Rows
section
open L2
variable {X : Cx} {C g : Addr} {n : Nat} {sp : Sp} {CX : CXT} {E : XK}
def rNotInI (C : Addr) (sp : Sp) (E : XK) : R2 := fun x y H Q => ∃ a dx fs, y = .ref a ∧ H a = some (.ins C dx fs) ∧ sp [y, x] H (fun z H' => ∃ b, z = .bl b ∧ Q (.bl (!b)) H') E
theorem op_notInI (hs : PySem.W.findIn X.K (.ref C) "__contains__" = some (some (.ref g))) (hf : PySem.W.isFn X.K (.ref g) = true) (F : FnR X.prog X.w X.K X.mg X.base CX n g sp)
    (hr : Room n X.A) (hx : Passes CX X E) : OpR X (compareOp .NotIn) (rNotInI C sp E) := by
  intro pins s σ H x y v u Q I rx ry h
  obtain ⟨a, dx, fs, rfl, ha, q⟩ := h
  cases (show u = Value.ref a from ry)
  obtain ⟨od, J⟩ := ins_inst I ha
  obtain ⟨m, hF⟩ := I.fr
  refine PySem.W.notIn_K hF I.ok.mod.kin J hs hf (wpAny_mono (wpAny_call (run_fnR (us := [.ref a, v]) (vs := [.ref a, x]) F hr hx I (.cons rfl (.cons rx .nil)) q)) (fun w s' z => ?_) fun _ _ x => x)
  obtain ⟨z', H', I', rz, b, eb, qz⟩ := z
  subst eb
  cases (show w = Value.bool b from rz)
  exact wpAny_truthy_bool ⟨.bl (!b), H', I', rfl, qz⟩
/-- xs[::k], k one or minus one -/
def tStepL (K : PySem.W.Frag) (te : TE) (tp : L2.St → Hp → (Option Int → Hp → Prop) → Prop) : TE := fun σ H Q => te σ H fun x H1 => ∃ a xs, x = .ref a ∧ SqL K H1 a xs ∧ tp σ H1 fun o H2 => SqL K H2 a xs ∧
  ((o = some 1 ∧ ∀ p, H2 p = none → Q (.ref p) (upd H2 p (.lst xs))) ∨ (o = some (-1) ∧ ∀ p, H2 p = none → Q (.ref p) (upd H2 p (.lst xs.reverse))))
theorem pick_all (items : Array Value) : slicePick items none none (some 1) = items := by
  have e : sliceBounds none none (some 1) items.size = (0, (items.size : Int), 1) := by first | rfl | simp [sliceBounds]
  unfold slicePick
  rw [e]
  have h1 := sliceRange_one 0 items.size
  have h2 := pick_run items 0 items.size
  simp only [Nat.sub_zero] at h1
  show ((sliceRange 0 (items.size : Int) 1).filterMap (items[·]?)).toArray = items
  rw [show sliceRange 0 (items.size : Int) 1 = (List.range items.size).map (0 + ·) from h1, h2, List.drop_zero, List.take_of_length_le (by rw [Array.length_toList]; exact Nat.le_refl _), Array.toArray_toList]
theorem pe_stepL {e se : Expr} {te : TE} {tp : L2.St → Hp → (Option Int → Hp → Prop) → Prop} {p3 pos : Pos} (he : PE X e te) (hp : PO X (some se) tp) (hops : ∀ v w, subscripted (.Slice none none (some se) p3) false v w = operate [v, w] (getItem v w) := by intro _ _; with_unfolding_all rfl) :
    PE X (.Subscript e (.Slice none none (some se) p3) pos) (tStepL X.K te tp) := by
  refine ⟨fun pins s σ H Q I h => ?_⟩
  refine Subscript_ (thn (he.run pins s σ H _ I h) fun v s1 ⟨x, H1, I1, r1, q1⟩ => ?_)
  obtain ⟨a, xs, ex, hx, q⟩ := q1
  subst ex
  cases r1
  refine wpAny_Slice (thn (po_none.run pins s1 σ H1 (fun o H2 => o = none ∧ H2 = H1) I1 ⟨rfl, rfl⟩) fun vl s2 ⟨l, H2, I2, pl, el, e2⟩ => ?_)
  subst el e2
  refine thn (po_none.run pins s2 σ H2 (fun o H3 => o = none ∧ H3 = H2) I2 ⟨rfl, rfl⟩) fun vu s3 ⟨u, H3, I3, pu, eu, e3⟩ => ?_
  subst eu e3
  refine thn (hp.run pins s3 σ H3 _ I3 q) fun vs s4 ⟨o, H4, I4, ps, hx4, q4⟩ => ?_
  have I5 : Inv X pins σ H4 { s4 with heap := s4.heap.push { cls := .type "slice", data := .fields #[vl, vu, vs] } } := I4.kept (t' := s4.toks) fun b ob q => Heap.get?_push_of_some _ q
  obtain ⟨its, r, ht, hz⟩ := I5.list hx4
  have hlen := r.length
  show wpAny (model X.prog X.w) X.A (subscriptTail e (.Slice none none (some se) p3) (.ref a) (.ref s4.heap.objs.size)) (EP X pins σ Q) X.xe { s4 with heap := s4.heap.push { cls := .type "slice", data := .fields #[vl, vu, vs] } }
  refine tail_any (ops := [.ref a, .ref s4.heap.objs.size]) ht.isList.typeIs (PySem.slot_list_getitem.lookup) ?_ (hops _ _)
  rcases q4 with ⟨rfl, q4⟩ | ⟨rfl, q4⟩
  · refine wpAny_getItem_list_slice ht.isList (Heap.IsSliceOf.new _ vl vu vs) pl pu ps (by decide) ?_ (by rw [List.size_toArray]; omega)
    rw [pick_all]
    refine ⟨.ref _, _, I5.laid (t' := s4.toks) (o := .lst xs) (fun b ob q => Heap.get?_push_of_some _ q) (Nat.le_refl _) ?_, rfl, q4 _ (I5.hok.fresh (Nat.le_refl _))⟩
    exact ⟨hz, _, 0, r, Heap.get?_push_size _ rfl⟩
  · refine wpAny_getItem_list_slice ht.isList (Heap.IsSliceOf.new _ vl vu vs) pl pu ps (by decide) ?_ (by rw [List.size_toArray]; omega)
    rw [PySem.W.krv_pick]
    refine ⟨.ref _, _, I5.laid (t' := s4.toks) (o := .lst xs.reverse) (fun b ob q => Heap.get?_push_of_some _ q) (Nat.le_refl _) ?_, rfl, q4 _ (I5.hok.fresh (Nat.le_refl _))⟩
    exact ⟨by rw [List.length_reverse]; exact hz, _, 0, r.reverse, Heap.get?_push_size _ rfl⟩
end
section
variable {prog : Program} {w : World} {A : Around}
/-- the lists of a list, one behind the other -/
theorem sum_go {R : Result → Shared → Prop} {I S l : Addr} {items : Array Value} (hh : A.handled = none) (nSI : S ≠ I) (nSl : S ≠ l) (nlI : l ≠ I) :
    ∀ (rest : List (Addr × List Value)) (i : Nat) (s : Shared) (t : Addr) (tot : List Value) (n c : Nat), items.toList.drop i = rest.map (fun q => Value.ref q.1) → i ≤ items.size → s.heap.IsListIter I l i → s.heap.IsList l items →
      IsL s.heap S #[.ref t] c → IsL s.heap t tot.toArray n → (∀ q ∈ rest, ∃ k, IsL s.heap q.1 q.2.toArray k) → t ≠ S → t ≠ I → (∀ q ∈ rest, q.1 ≠ S ∧ q.1 ≠ I) → tot.length + (rest.map (·.2.length)).sum ≤ sizeLine →
      (∀ (h' : Heap) (tk : Nat) (t' : Addr) (k : Nat), IsL h' t' (tot ++ (rest.map (·.2)).flatten).toArray k → (∀ b o, b ≠ S → b ≠ I → s.heap.get? b = some o → h'.get? b = some o) → (rest = [] → t' = t) → (rest ≠ [] → s.heap.objs.size ≤ t') → R (.ok (.ret (.ref t'))) { s with heap := h', toks := tk }) →
      codeAny (model prog w) A (.builtin "sum.loop" ⟨[.ref I, .ref S, rawInt 2, rawInt 0], []⟩) R s
  | [], i, s, t, tot, n, c, dr, hi, it, hl, hS, ht, _, _, _, _, _, q => by
    have e : items.toList[i]? = none := by
      rw [← List.head?_drop, dr]; rfl
    refine codeAny_builtin F.entry_sum_loop ?_
    rw [Around.under_plainId F.plain_sum_loop _]
    show wpAny _ A.in1 (seqItems? (.ref S) >>= _) _ _ s
    refine wpAny_bind (wpAny_seqItems hS rfl ?_)
    show wpAny _ A.in1 (tryCatch (pyNext (.ref I)) _ >>= _) _ _ s
    refine wpAny_bind (wpAny_tryCatch (wpAny_pyNext_list_end (by simp [hh]) it hl (by rw [← Array.getElem?_toList]; exact e) fun h' he => ?_))
    refine wpAny_pure (q h' s.toks t n (by simpa using he t _ (by assumption) ht) (fun b o n1 n2 e => he b o n2 e) (fun _ => rfl) (fun h => absurd rfl h))
  | (b, ys) :: rest, i, s, t, tot, n, c, dr, hi, it, hl, hS, ht, hr, ntS, ntI, nr, bound, q => by
    have hx : items[i]? = some (.ref b) := by
      rw [← Array.getElem?_toList, ← List.head?_drop, dr]; rfl
    have dr2 : items.toList.drop (i + 1) = rest.map (fun q => Value.ref q.1) := by
      rw [← List.tail_drop, dr]; rfl
    have lt : i < items.size := (Array.getElem?_eq_some_iff.mp hx).1
    obtain ⟨kb, hb⟩ := hr (b, ys) (List.mem_cons_self ..)
    obtain ⟨nbS, nbI⟩ := nr (b, ys) (List.mem_cons_self ..)
    simp only [List.map_cons, List.sum_cons] at bound
    refine codeAny_builtin F.entry_sum_loop ?_
    rw [Around.under_plainId F.plain_sum_loop _]
    show wpAny _ A.in1 (seqItems? (.ref S) >>= _) _ _ s
    refine wpAny_bind (wpAny_seqItems hS rfl ?_)
    show wpAny _ A.in1 (tryCatch (pyNext (.ref I)) _ >>= _) _ _ s
    refine wpAny_bind (wpAny_tryCatch (wpAny_pyNext_list_item it hl hx fun h1 it1 sb => ?_))
    have k1 : ∀ a o, a ≠ I → s.heap.get? a = some o → h1.get? a = some o := fun a o ne e => (sb.2 a ne).trans e
    show wpAny _ A.in1 ((holding [Value.ref b] (binaryOp .Add (.ref t) (.ref b))).attempt >>= _) _ _ _
    refine wpAny_bind (wpAny_attempt (wpAny_holding (P.add_list (s := { s with heap := h1 }) (k1 t _ ntI ht) (k1 b _ nbI hb) ?_ (by simp only [List.size_toArray]; omega))))
    have eq : tot.toArray ++ ys.toArray = (tot ++ ys).toArray := by simp
    rw [eq]
    show wpAny _ A.in1 (updateSeq S (fun _ => #[.ref h1.objs.size]) >>= _) _ _ _
    have hS1 : IsL (h1.push { cls := .type "list", data := .seq (tot ++ ys).toArray }) S #[.ref t] c := Heap.get?_push_of_some _ (k1 S _ nSI hS)
    have lS1 := Heap.lt_size (k1 S _ nSI hS)
    refine wpAny_bind (wpAny_updateSeq hS1 rfl ?_)
    have hS2 := Heap.get?_update_self (Obj.mapSeq fun _ => #[Value.ref h1.objs.size]) hS1 rfl
    refine wpAny_bind (wpAny_letGo ?_)
    show wpAny _ A.in1 (updateSeq S (fun _ => #[.ref h1.objs.size]) >>= _) _ _ _
    refine wpAny_bind (wpAny_updateSeq hS2 rfl ?_)
    have hS3 := Heap.get?_update_self (Obj.mapSeq fun _ => #[Value.ref h1.objs.size]) hS2 rfl
    have sz : s.heap.objs.size ≤ h1.objs.size := Nat.le_of_eq sb.1.symm
    have keep : ∀ a o, a ≠ S → a ≠ I → s.heap.get? a = some o → ((((h1.push { cls := .type "list", data := .seq (tot ++ ys).toArray }).update S (Obj.mapSeq fun _ => #[Value.ref h1.objs.size])).update S (Obj.mapSeq fun _ => #[Value.ref h1.objs.size]))).get? a = some o := fun a o n1 n2 e =>
      (Heap.get?_update_other _ _ (Ne.symm n1)).trans ((Heap.get?_update_other _ _ (Ne.symm n1)).trans (Heap.get?_push_of_some _ (k1 a o n2 e)))
    have nt : h1.objs.size ≠ S := Nat.ne_of_gt lS1
    have nI : h1.objs.size ≠ I := by
      obtain ⟨oI, hI, _⟩ := it1
      exact Nat.ne_of_gt (Heap.lt_size hI)
    refine wpAny_pure ⟨plainId_quiet F.plain_sum_loop _, sum_go hh nSI nSl nlI rest (i + 1) _ h1.objs.size (tot ++ ys) 0 _ dr2 lt ?_ ?_ hS3 ?_ (fun z hz => ?_) nt nI (fun z hz => nr z (List.mem_cons_of_mem _ hz)) (by rw [List.length_append]; omega) fun h' tk t' k hL kk e1 e2 => ?_⟩
    · exact it1.at fun o e => (Heap.get?_update_other _ _ nSI).trans ((Heap.get?_update_other _ _ nSI).trans (Heap.get?_push_of_some _ e))
    · exact hl.at fun o e => keep l o (Ne.symm nSl) nlI e
    · exact (Heap.get?_update_other _ _ (Ne.symm nt)).trans ((Heap.get?_update_other _ _ (Ne.symm nt)).trans (Heap.get?_push_size _ rfl))
    · obtain ⟨kz, hz2⟩ := hr z (List.mem_cons_of_mem _ hz)
      obtain ⟨n1, n2⟩ := nr z (List.mem_cons_of_mem _ hz)
      exact ⟨kz, keep _ _ n1 n2 hz2⟩
    · refine q h' tk t' k ?_ (fun a o n1 n2 e => kk a o n1 n2 (keep a o n1 n2 e)) (fun h => nomatch h) fun _ => ?_
      · rw [List.map_cons, List.flatten_cons, ← List.append_assoc]; exact hL
      · by_cases hrest : rest = []
        · rw [e1 hrest]; exact sz
        · refine Nat.le_trans sz (Nat.le_trans ?_ (e2 hrest))
          rw [Heap.size_update, Heap.size_update, Heap.size_push]
          exact Nat.le_succ _
end
end FR
set_option Elab.async false
set_option linter.all false
set_option maxRecDepth 100000
set_option maxHeartbeats 4000000
/-! sum(lists, start=[]) -/
namespace FR
open PySem PySem.Spec PyProof.Rows
section
variable {prog : Program} {w : World} {A : Around} {E : Value → Shared → Prop} {s : Shared}
theorem sum_args (a b : Value) : argsOk "sum" ⟨[a], [(Str.ofString "start", b)]⟩ := by unfold argsOk; kernel_rfl
theorem sum_check (a b : Value) : checkBuiltinCall "sum" ⟨[a], [(Str.ofString "start", b)]⟩ = pure () := by
  have ha := sum_args a b
  simp only [checkBuiltinCall, F.kind_sum]
  cases hsig : Manifest.signature? "sum" with
  | none => rfl
  | some sig =>
    simp only [argsOk, hsig] at ha
    exact ha
theorem call_sum_lists {l z : Addr} {items : Array Value} {nz : Nat} {rest : List (Addr × List Value)} {Q : Value → Shared → Prop} (hh : A.handled = none) (hl : s.heap.IsList l items) (hi : items.toList = rest.map fun q => Value.ref q.1) (hz : IsL s.heap z #[] nz)
    (hr : ∀ q ∈ rest, ∃ k, IsL s.heap q.1 q.2.toArray k) (ne : rest ≠ []) (bound : (rest.map (·.2.length)).sum ≤ sizeLine)
    (h : ∀ (h' : Heap) (tk : Nat) (t : Addr) (k : Nat), IsL h' t ((rest.map (·.2)).flatten).toArray k → (∀ b o, s.heap.get? b = some o → h'.get? b = some o) → s.heap.objs.size ≤ t → Q (.ref t) { s with heap := h', toks := tk }) :
    wpAny (model prog w) A (call (.builtin "sum") [.ref l] [(Str.ofString "start", .ref z)]) Q E s := by
  refine wpAny_call (codeAny_call_builtin F.plain_sum F.entry_sum ?_)
  show wpAny _ _ (checkBuiltinCall "sum" ⟨[.ref l], [(Str.ofString "start", .ref z)]⟩) _ _ s
  rw [sum_check]
  refine wpAny_pure ?_
  unfold Builtin.«sum»
  simp only [List.length_cons, List.length_nil]
  rw [if_neg (by decide)]
  refine wpAny_bind (wpAny_of_eq (show Builtin.Builtins.bindParams "sum" ["start"] 0 ⟨[], [(Str.ofString "start", Value.ref z)]⟩ = pure [some (.ref z)] from rfl) ?_)
  refine wpAny_bind (wpAny_pyIter_list hl ?_)
  refine wpAny_bind (wpAny_pure ?_)
  have hz1 : IsL (s.heap.push { cls := .type "list_iterator", data := .fields #[.ref l, .int 0 0] }) z #[] nz := hz.push _
  have tz : Shared.TypeIs { s with heap := s.heap.push { cls := .type "list_iterator", data := .fields #[.ref l, .int 0 0] } } (.ref z) "list" := ⟨_, hz1, rfl⟩
  simp only [List.forIn_cons, List.forIn_nil]
  refine wpAny_bind (wpAny_bind (wpAny_bind (wpAny_isInstance (T := "list") (b := false) tz F.sub_list_str ?_)))
  simp only [Bool.false_eq_true, if_false]
  refine wpAny_pure (wpAny_bind (wpAny_bind (wpAny_isInstance (T := "list") (b := false) tz F.sub_list_bytes ?_)))
  simp only [Bool.false_eq_true, if_false]
  refine wpAny_pure (wpAny_bind (wpAny_bind (wpAny_isInstance (T := "list") (b := false) tz F.sub_list_bytearray ?_)))
  simp only [Bool.false_eq_true, if_false]
  refine wpAny_pure (wpAny_pure ?_)
  refine wpAny_bind (wpAny_newObj_type ?_)
  have hl1 := hl.push { cls := .type "list_iterator", data := .fields #[.ref l, .int 0 0] }
  have sz1 : (s.heap.push { cls := .type "list_iterator", data := .fields #[.ref l, .int 0 0] }).objs.size = s.heap.objs.size + 1 := Heap.size_push ..
  have ll : l < s.heap.objs.size := by obtain ⟨o, ho, _⟩ := hl; exact Heap.lt_size ho
  have lz : z < s.heap.objs.size := Heap.lt_size hz
  refine wpAny_pure ⟨plainId_quiet F.plain_sum_loop _, sum_go (I := s.heap.objs.size) (S := (s.heap.push { cls := .type "list_iterator", data := .fields #[.ref l, .int 0 0] }).objs.size) (l := l) (items := items) hh
    (by rw [sz1]; exact Nat.succ_ne_self _) (by rw [sz1]; exact Nat.ne_of_gt (Nat.lt_succ_of_lt ll)) (Nat.ne_of_lt ll) rest 0 _ z [] nz 0 (by rw [List.drop_zero]; exact hi) (Nat.zero_le _)
    ⟨_, Heap.get?_push_of_some _ (Heap.get?_push_size _ rfl), rfl, rfl⟩ (hl1.push _) (Heap.get?_push_size _ rfl) (by simpa using hz1.push _) (fun q hq => ?_) (by rw [sz1]; exact Nat.ne_of_lt (Nat.lt_succ_of_lt lz)) (Nat.ne_of_lt lz) (fun q hq => ?_) (by simpa using bound) fun h' tk t k hL kk e1 e2 => ?_⟩
  · obtain ⟨k, hk⟩ := hr q hq
    exact ⟨k, (hk.push _).push _⟩
  · obtain ⟨k, hk⟩ := hr q hq
    have lq := Heap.lt_size hk
    exact ⟨by rw [sz1]; exact Nat.ne_of_lt (Nat.lt_succ_of_lt lq), Nat.ne_of_lt lq⟩
  · refine h h' tk t k (by simpa using hL) (fun b o e => ?_) ?_
    · have lb := Heap.lt_size e
      exact kk b o (by rw [sz1]; exact Nat.ne_of_lt (Nat.lt_succ_of_lt lb)) (Nat.ne_of_lt lb) (Heap.get?_push_of_some _ (Heap.get?_push_of_some _ e))
    · have := e2 ne
      refine Nat.le_trans ?_ this
      show s.heap.objs.size ≤ Array.size _
      rw [Heap.size_push, sz1]
      omega
end
section
open L2
variable {X : Cx}
theorem lists_of {pins : List (Addr × Obj)} {σ : L2.St} {H : Hp} {s : Shared} (I : Inv X pins σ H s) : ∀ ps : List (Addr × List V), (∀ p ∈ ps, H p.1 = some (.lst p.2)) →
    ∃ rest : List (Addr × List Value), rest.map (fun q => Value.ref q.1) = ps.map (fun q => Value.ref q.1) ∧ Vals (ps.map (·.2)).flatten (rest.map (·.2)).flatten ∧ (∀ q ∈ rest, ∃ k, IsL s.heap q.1 q.2.toArray k) ∧ rest.map (·.2.length) = ps.map (·.2.length)
  | [], _ => ⟨[], rfl, .nil, (fun q h => absurd h List.not_mem_nil), rfl⟩
  | (a, xs) :: ps, h => by
    obtain ⟨rest, e1, e2, e3, e4⟩ := lists_of I ps fun p hp => h p (List.mem_cons_of_mem _ hp)
    obtain ⟨_, its, n, r, hl, e⟩ := I.lstM (h (a, xs) (List.mem_cons_self ..))
    refine ⟨(a, its) :: rest, by rw [List.map_cons, List.map_cons, e1], by rw [List.map_cons, List.map_cons, List.flatten_cons, List.flatten_cons]; exact r.append e2, fun q hq => ?_, by rw [List.map_cons, List.map_cons, e4]; show its.length :: _ = xs.length :: _; rw [hl]⟩
    rcases List.mem_cons.mp hq with rfl | m
    · exact ⟨n, e⟩
    · exact e3 q m
def rSumL (K : PySem.W.Frag) : List V → List V → Hp → VK → Prop := fun vs zs H Q => ∃ (a z : Addr) (ps : List (Addr × List V)), vs = [.ref a] ∧ zs = [.ref z] ∧ SqL K H a (ps.map fun p => V.ref p.1) ∧ H z = some (.lst []) ∧ (∀ p ∈ ps, H p.1 = some (.lst p.2)) ∧ ps ≠ [] ∧ (ps.map (·.2.length)).sum ≤ 4000 ∧
  ∀ t, H t = none → Q (.ref t) (upd H t (.lst (ps.map (·.2)).flatten))
theorem cr_sumL (hc : X.calm = true) : CallRK X (.builtin "sum") [Str.ofString "start"] (rSumL X.K) := by
  intro pins s σ H vs zs us ws Q I r rz h
  obtain ⟨a, z, ps, rfl, rfl, hs, hz, hp, ne, b, q⟩ := h
  obtain rfl := Vals.ref1 r
  obtain rfl := Vals.ref1 rz
  obtain ⟨its, rv, hl, _⟩ := I.list hs
  obtain ⟨rest, e1, e2, e3, e4⟩ := lists_of I ps hp
  obtain ⟨_, iz, nz, rz0, lz, ez⟩ := I.lstM hz
  have iz0 : iz = [] := List.length_eq_zero_iff.mp lz.symm
  subst iz0
  have ie : its = rest.map fun q => Value.ref q.1 := by
    rw [e1]
    have : ∀ (qs : List (Addr × List V)) (us : List Value), Vals (qs.map fun p => V.ref p.1) us → us = qs.map fun q => Value.ref q.1 := fun qs => by
      induction qs with
      | nil => intro us h; cases h; rfl
      | cons p t ih =>
        intro us h
        rw [List.map_cons] at h
        cases h with
        | cons r1 rr => rw [List.map_cons, ih _ rr]; cases r1; rfl
    exact this ps its rv
  have len : ((ps.map (·.2)).flatten).length ≤ sizeLine := by
    rw [List.length_flatten, List.map_map]
    exact Nat.le_trans b (by decide)
  show wpAny _ _ (call (.builtin "sum") [.ref a] [(Str.ofString "start", .ref z)]) _ _ _
  refine call_sum_lists (rest := rest) (I.ok.hd hc) hl.isList (by simpa using ie) ez e3 (fun e => ne ?_) (by rw [e4]; exact Nat.le_trans b (by decide)) fun h' tk t k hL kk hge => ?_
  · rw [e] at e1
    exact List.map_eq_nil_iff.mp e1.symm
  · have hn : H t = none := I.hok.fresh hge
    have J : Inv X pins σ (upd H t (.lst (ps.map (·.2)).flatten)) { s with heap := h', toks := tk } := I.laid (t' := tk) kk hge ⟨len, _, k, e2, hL⟩
    exact ⟨.ref t, _, J, rfl, q t hn⟩
end
end FR
set_option Elab.async false
set_option linter.all false
set_option maxRecDepth 100000
set_option maxHeartbeats 4000000
/-! == of dicts whose values are data; a method called by keywords; `in` within a block -/
namespace FR
open PySem PySem.Spec PyProof.Rows L2
def valD (ns : List (Key × PyData)) (k : Key) : Option PyData := (ns.find? fun q => decide (q.1 = k)).map (·.2)
def hitsD (ns : List (Key × PyData)) : List (Key × PyData) → Bool
  | [] => true
  | (k, d) :: r => match valD ns k with
    | none => false
    | some e => PyData.eqv d e && hitsD ns r
def eqDD (ms ns : List (Key × PyData)) : Bool := ms.length == ns.length && hitsD ns ms
/-- a dict's entries, their values data -/
def DpK (K : PySem.W.Frag) (H : Hp) : List (Key × V) → List (Key × PyData) → Prop := Paired fun kv m => kv.1 = m.1 ∧ Dp K H kv.2 m.2 ∧ SeqAt.shaped m.2 = true
theorem dpK_val {K : PySem.W.Frag} {H : Hp} {ks : List (Key × V)} {ms : List (Key × PyData)} (h : DpK K H ks ms) (k : Key) : (valV ks k = none ∧ valD ms k = none) ∨ ∃ v d, valV ks k = some v ∧ valD ms k = some d ∧ Dp K H v d ∧ SeqAt.shaped d = true := by
  induction h with
  | nil => exact .inl ⟨rfl, rfl⟩
  | @cons p m r t h hr ih =>
    obtain ⟨e, hd, hs⟩ := h
    by_cases c : p.1 = k
    · refine .inr ⟨p.2, m.2, valV_pos c, ?_, hd, hs⟩
      unfold valD
      rw [List.find?_cons_of_pos (by rw [← e]; exact decide_eq_true c)]; rfl
    · rw [valV_neg c]
      have : valD (m :: t) k = valD t k := by
        unfold valD
        rw [List.find?_cons_of_neg (by rw [← e]; simpa using c)]
      rw [this]
      exact ih
section
variable {X : Cx}
theorem hits_dd {A : Around} {pins : List (Addr × Obj)} {σ : L2.St} {H : Hp} {s : Shared} (I : Inv X pins σ H s) (hu : A.units + 64 < cLine) {ls : List (Key × V)} {ns : List (Key × PyData)} {vb : List (Key × Value)} (hb : DpK X.K H ls ns) (rb : KV ls vb) :
    ∀ {ks : List (Key × V)} {ms : List (Key × PyData)} {va : List (Key × Value)}, DpK X.K H ks ms → KV ks va → PySem.W.KeqHits A s vb va (hitsD ns ms)
  | _, _, _, .nil, .nil => .nil
  | (k, v) :: _, (k', d) :: ms, (k2, u) :: va, .cons h hr, .cons r rr => by
    obtain ⟨e, hd, hs⟩ := h
    obtain ⟨e2, rv⟩ := r
    obtain rfl : k = k' := e
    obtain rfl : k = k2 := e2
    have q := rb.val k
    rcases dpK_val hb k with ⟨h1, h2⟩ | ⟨v', d', h1, h2, hd', hs'⟩
    · rw [h1] at q
      have none2 : valueAt vb k = none := by
        cases z : valueAt vb k with
        | none => rfl
        | some y => rw [z] at q; exact q.elim
      show PySem.W.KeqHits A s vb ((k, u) :: va) (match valD ns k with | none => false | some e => PyData.eqv d e && hitsD ns ms)
      rw [h2]
      exact .miss none2
    · rw [h1] at q
      cases z : valueAt vb k with
      | none => rw [z] at q; exact q.elim
      | some y =>
        rw [z] at q
        show PySem.W.KeqHits A s vb ((k, u) :: va) (match valD ns k with | none => false | some e => PyData.eqv d e && hitsD ns ms)
        rw [h2]
        obtain ⟨as, r1⟩ := Dp.reads I d v u hd rv
        obtain ⟨bs, r2⟩ := Dp.reads I d' v' y hd' q
        exact .hit z (SeqAt.eqAt_reads d d' A s u y as bs r1 r2 (SeqAt.canLay_of_shaped hs) (SeqAt.canLay_of_shaped hs') (SeqAt.room_of_shaped hs hu)) (hits_dd I hu hb rb hr rr)
def rDD (K : PySem.W.Frag) (neg : Bool) : R2 := fun x y H Q => ∃ a b ks ls ms ns, x = .ref a ∧ y = .ref b ∧ Rd H a (.dK ks) ∧ Rd H b (.dK ls) ∧ DpK K H ks ms ∧ DpK K H ls ns ∧ Q (.bl (neg != eqDD ms ns)) H
theorem op_eqDD (hu : X.A.units + 65 < cLine) : OpR X (compareOp .Eq) (rDD X.K false) := by
  intro pins s σ H x y v u Q I rx ry h
  obtain ⟨a, b, ks, ls, ms, ns, rfl, rfl, ea, eb, hm, hn, q⟩ := h
  obtain rfl : v = Value.ref a := rx
  obtain rfl : u = Value.ref b := ry
  obtain ⟨_, ya, va, ra, da⟩ := dk_rd I.hok ea
  obtain ⟨_, yb, vb, rb, db⟩ := dk_rd I.hok eb
  refine PySem.W.keq_eq (knd := mixKind X.prog X.w) (r := hitsD ns ms) ya yb da db (by omega) (fun _ => hits_dd I (by simp; omega) hn rb hm ra) ⟨.bl _, H, I, rfl, ?_⟩
  have l1 : va.length = ms.length := ra.length.symm.trans (Paired.length hm)
  have l2 : vb.length = ns.length := rb.length.symm.trans (Paired.length hn)
  rw [l1, l2]
  have e : (false != eqDD ms ns) = (ms.length == ns.length && hitsD ns ms) := by
    show (false != eqDD ms ns) = eqDD ms ns
    cases eqDD ms ns <;> rfl
  rw [← e]
  exact q
theorem op_neDD (hu : X.A.units + 65 < cLine) : OpR X (compareOp .NotEq) (rDD X.K true) := by
  intro pins s σ H x y v u Q I rx ry h
  obtain ⟨a, b, ks, ls, ms, ns, rfl, rfl, ea, eb, hm, hn, q⟩ := h
  obtain rfl : v = Value.ref a := rx
  obtain rfl : u = Value.ref b := ry
  obtain ⟨_, ya, va, ra, da⟩ := dk_rd I.hok ea
  obtain ⟨_, yb, vb, rb, db⟩ := dk_rd I.hok eb
  refine PySem.W.keq_ne (knd := mixKind X.prog X.w) (r := hitsD ns ms) ya yb da db (by omega) (fun _ => hits_dd I (by simp; omega) hn rb hm ra) ⟨.bl _, H, I, rfl, ?_⟩
  have l1 : va.length = ms.length := ra.length.symm.trans (Paired.length hm)
  have l2 : vb.length = ns.length := rb.length.symm.trans (Paired.length hn)
  rw [l1, l2]
  have e : (true != eqDD ms ns) = (!(ms.length == ns.length && hitsD ns ms)) := by
    show (true != eqDD ms ns) = !eqDD ms ns
    cases eqDD ms ns <;> rfl
  rw [← e]
  exact q
theorem op_inTK {K : PySem.W.Frag} (hK : X.K = K) (hu : X.A.units + 65 < cLine) : OpR X (compareOp .In) (rInT K) := hK ▸ op_inT hu
end
section
variable {X : Cx} {o : Expr} {kws : List Keyword} {ta : TE} {tk : TA} {C f : Addr} {m : Str} {k : Nat} {fd : FuncData} {ps ks : List Str} {sp : Sp} {CX : CXT} {E : XK} {g : List Value → List Value → List Value} {gV : List V → List V → List V} {apos pos : Pos}
def tMethK (C : Addr) (m : Str) (nk : Nat) (sp : Sp) (gV : List V → List V → List V) (E : XK) (ta : TE) (tk : TA) : TE := fun σ H Q => ta σ H fun x H1 => ∃ a dx fs, x = .ref a ∧ H1 a = some (.ins C dx fs) ∧ fs.lookup m = none ∧ tk σ H1 fun zs H2 => zs.length = nk ∧ sp (gV [x] zs) H2 Q E
/-- o.m(k = v, ..) -/
theorem pe_methK0 {pl : Sem Bool} (he : PE X o ta) (c : Cls X.K C) (hm : Meth X.K C m f) (F : FnOk X.prog X.w X.K X.mg X.base CX k f fd ps sp) (hr : Room k X.A) (hb : KBn X.K fd ps 1 ks g gV) (hx : Passes CX X E) (hkw : PK X kws tk)
    (hall : (backToKw pos (keywordEach kws X.env)).all (·.1.isSome) = true := by rfl) (hks : (backToKw pos (keywordEach kws X.env)).filterMap (·.1) = ks := by rfl)
    (hpl : ((backTo pos (starEach [] X.env)).any (·.1) || (backToKw pos (keywordEach kws X.env)).any (·.1.isNone)) = false := by rfl)
    (ht : eval (.Call (.Attribute o m apos) [] kws pos) X.env = (do
      let ov ← eval o X.env
      standAt apos.atName
      let (f, first) ← holding [ov] (getMethod ov m pl)
      callWith pos f first (backTo pos (starEach [] X.env)) (backToKw pos (keywordEach kws X.env))) := by rfl) :
    PE X (.Call (.Attribute o m apos) [] kws pos) (tMethK C m ks.length sp gV E ta tk) := by
  refine ⟨fun pins s σ H Q I h => ?_⟩
  refine PySem.W.methodCall_KW (pl := pl) (thn (he.run pins s σ H _ I h) fun u s1 ⟨x, H1, I1, rx, a, dx, fs, ex, ea, l, q⟩ => ?_) ht
  subst ex
  obtain rfl : u = Value.ref a := rx
  refine getmeth_ok I1 ea c hm l ?_
  refine PySem.W.callWith_KW0 (h₀ := X.base) (first := [.ref a]) I1.ok.mod.kin hm.kp hall ?_ hpl
  refine thn (hkw.run pos pins s1 σ H1 _ I1 q) fun ws s2 ⟨zs, H2, I2, rz, l2, q2⟩ => ⟨I2.kIn, ?_⟩
  rw [hks]
  exact run_fnN (us := [.ref a]) (vs := [.ref a]) F hr hb hx I2 (.cons rfl .nil) rz rfl l2 q2
end
end FR
set_option Elab.async false
set_option linter.all false
set_option maxRecDepth 100000
/-! texts in order: one order alone -/
namespace FR
open PySem PySem.Spec PyProof.Rows
/-- a stands no later than b -/
def leS (a b : Str) : Prop := ltCps b.cps.toList a.cps.toList = false
theorem lt_trans' : ∀ {a b c : List Nat}, ltCps b a = false → ltCps c b = false → ltCps c a = false
  | [], [], [], _, _ => rfl
  | [], [], _ :: _, _, _ => rfl
  | [], _ :: _, [], _, h => by simp [ltCps] at h
  | [], _ :: _, _ :: _, _, _ => rfl
  | _ :: _, [], _, h, _ => by simp [ltCps] at h
  | _ :: _, _ :: _, [], _, h => by simp [ltCps] at h
  | x :: r, y :: t, z :: u, h1, h2 => by
    simp only [ltCps, Bool.or_eq_false_iff, decide_eq_false_iff_not, Bool.and_eq_false_iff, beq_eq_false_iff_ne, Nat.not_lt] at h1 h2 ⊢
    refine ⟨by omega, ?_⟩
    by_cases e : z = x
    · have e1 : y = x := by omega
      have e2 : z = y := by omega
      refine .inr (lt_trans' (h1.2.resolve_left fun n => n e1) (h2.2.resolve_left fun n => n e2))
    · exact .inl e
theorem lt_anti : ∀ {a b : List Nat}, ltCps b a = false → ltCps a b = false → a = b
  | [], [], _, _ => rfl
  | [], _ :: _, _, h => by simp [ltCps] at h
  | _ :: _, [], h, _ => by simp [ltCps] at h
  | x :: r, y :: t, h1, h2 => by
    simp only [ltCps, Bool.or_eq_false_iff, decide_eq_false_iff_not, Bool.and_eq_false_iff, beq_eq_false_iff_ne, Nat.not_lt] at h1 h2
    have e : x = y := by omega
    rw [e, lt_anti (h1.2.resolve_left fun n => n e.symm) (h2.2.resolve_left fun n => n e)]
theorem leS_anti {a b : Str} (h1 : leS a b) (h2 : leS b a) : a = b := by
  obtain ⟨⟨x⟩⟩ := a
  obtain ⟨⟨y⟩⟩ := b
  have := lt_anti h1 h2
  simp only at this
  rw [this]
theorem rising_pair : ∀ {p : Str} {l : List Str}, risingS p l = true → (p :: l).Pairwise leS
  | p, [], _ => by simp
  | p, x :: r, h => by
    simp only [risingS, Bool.and_eq_true, Bool.not_eq_true'] at h
    have ih := rising_pair h.2
    refine List.pairwise_cons.mpr ⟨fun y hy => ?_, ih⟩
    rcases List.mem_cons.mp hy with rfl | m
    · exact h.1
    · exact lt_trans' h.1 ((List.pairwise_cons.mp ih).1 y m)
theorem sorted_pair : ∀ {l : List Str}, sortedS l = true → l.Pairwise leS
  | [], _ => .nil
  | x :: r, h => rising_pair h
theorem sorted_one {xs ys : List Str} (h1 : sortedS xs = true) (h2 : sortedS ys = true) (p : xs.Perm ys) : xs = ys :=
  p.eq_of_pairwise (fun a b _ _ h h' => leS_anti h h') (sorted_pair h1) (sorted_pair h2)
/-- the texts in order -/
noncomputable def srt (xs : List Str) : List Str := open Classical in if h : ∃ ys : List Str, ys.Perm xs ∧ sortedS ys = true then Classical.choose h else []
theorem srt_eq {xs ys : List Str} (p : ys.Perm xs) (h : sortedS ys = true) : ys = srt xs := by
  unfold srt
  have e : ∃ ys : List Str, ys.Perm xs ∧ sortedS ys = true := ⟨ys, p, h⟩
  rw [dif_pos e]
  have c := Classical.choose_spec e
  exact sorted_one h c.2 (p.trans c.1.symm)
theorem srt_perm {xs ys zs : List Str} (p : ys.Perm xs) (h : sortedS ys = true) (q : xs.Perm zs) : srt xs = srt zs := by
  rw [← srt_eq p h, ← srt_eq (p.trans q) h]
section
open L2
variable {X : Cx} {tg : Expr}
def iSeq (K : PySem.W.Frag) (tl : TE) : TI := fun σ H R => tl σ H fun x H1 => ∃ a, x = .ref a ∧ ((∃ xs, SqL K H1 a xs ∧ R (Itl K a) H1) ∨ ∃ xs, SqT K H1 a xs ∧ R (Itt K a) H1)
/-- a list or a tuple, walked -/
theorem pi_seq {l : Expr} {tl : TE} (hl : PE X l tl) : PI X tg l (iSeq X.K tl) := by
  refine ⟨fun pins s σ H R I h => ?_⟩
  refine thn (hl.run pins s σ H _ I h) fun v s1 ⟨x, H1, I1, r1, q1⟩ => ?_
  obtain ⟨a, rfl, ⟨xs, hq, q⟩ | ⟨xs, hq, q⟩⟩ := q1
  · cases r1
    obtain ⟨its, rv, p, hz⟩ := I1.list hq
    exact wpAny_pyIter_list p.isList (pi_one I1 _ (turn_list a _) ⟨_, Heap.get?_push_size _ rfl, rfl, rfl⟩ q)
  · cases r1
    obtain ⟨its, rv, p, hz⟩ := I1.tuple hq
    exact wpAny_pyIter_tuple (show s1.heap.IsTuple a its.toArray from p) (pi_one I1 _ (turn_tuple a _) ⟨_, Heap.get?_push_size _ rfl, rfl, rfl⟩ q)
variable {J : It} {n : Nat} {G : Hp → Prop} {Y : Nat → Hp → V → Hp → Prop}
theorem round_it (w : Walk J n G Y) {g : TG} {σ0 : L2.St} {B : L2.St → Hp → (Hp → Prop) → Prop} {Qd : Hp → Prop} (Pv : Nat → Hp → Prop) (hG : ∀ i H, i ≤ n → Pv i H → G H)
    (hs : ∀ i x H H', i < n → Pv i H → Y i H x H' → g x σ0 H' fun σ2 H2 => B σ2 H2 (Pv (i + 1))) (hd : ∀ H, Pv n H → Qd H) : Round J g σ0 B Qd (fun i m H => m = n - i ∧ i ≤ n ∧ Pv i H) := by
  rintro i m H ⟨rfl, hi, p⟩
  have q := hG i H hi p
  by_cases lt : i < n
  · exact .inr ⟨w.goes i H lt q, Pv (i + 1), fun H' p' => ⟨n - (i + 1), by omega, rfl, lt, p'⟩, fun x H' y => hs i x H H' lt p (w.yields i H x H' lt q y)⟩
  · have e : i = n := by omega
    subst e
    exact .inl ⟨w.stops H q, hd H p⟩
theorem dc_it (w : Walk J n G Y) {g : TG} {tt : TT} {tk tv : TE} {vs : List Nat} {σ : L2.St} {H1 : Hp} {D : Addr} {Qd : Hp → Prop} (Pv : Nat → Hp → Prop) (h0 : Pv 0 (upd H1 D (.dK []))) (hG : ∀ i H, i ≤ n → Pv i H → G H)
    (hs : ∀ i x H H', i < n → Pv i H → Y i H x H' → g x (wipe σ vs) H' fun σ2 H2 => wipe σ2 vs = wipe σ vs ∧ tt σ2 H2 fun b H3 =>
      if b = true then tk σ2 H3 fun y H4 => tv σ2 H4 fun z H5 => ∃ kvs k, y = kV k ∧ H5 D = some (.dK kvs) ∧ kvs.length < sizeLine ∧ Pv (i + 1) (upd H5 D (.dK (putK kvs k z))) else Pv (i + 1) H3) (hd : ∀ H, Pv n H → Qd H) :
    ∃ W : Nat → Nat → Hp → Prop, (∃ m, W 0 m (upd H1 D (.dK []))) ∧ ∀ i m H, W i m H →
      (J.stop i H ∧ Qd H) ∨ (J.go i H ∧ ∃ Nx : Hp → Prop, (∀ H', Nx H' → ∃ m', m' < m ∧ W (i + 1) m' H') ∧ ∀ x H', J.yld i H x H' → g x (wipe σ vs) H' fun σ2 H2 => wipe σ2 vs = wipe σ vs ∧ tt σ2 H2 fun b H3 =>
        if b = true then tk σ2 H3 fun y H4 => tv σ2 H4 fun z H5 => ∃ kvs k, y = kV k ∧ H5 D = some (.dK kvs) ∧ kvs.length < sizeLine ∧ Nx (upd H5 D (.dK (putK kvs k z))) else Nx H3) :=
  ⟨fun i m H => m = n - i ∧ i ≤ n ∧ Pv i H, ⟨n, by simp, Nat.zero_le _, h0⟩, fun i m H ⟨e, hi, p⟩ => by
    subst e
    have q := hG i H hi p
    by_cases lt : i < n
    · exact .inr ⟨w.goes i H lt q, Pv (i + 1), fun H' p' => ⟨n - (i + 1), by omega, rfl, lt, p'⟩, fun x H' y => hs i x H H' lt p (w.yields i H x H' lt q y)⟩
    · have e : i = n := by omega
      subst e
      exact .inl ⟨w.stops H q, hd H p⟩⟩
/-- a lock taken off again leaves nothing -/
theorem keep_lock {H H' : Hp} {d : Addr} {u : HO} {od : Obj} {M : List Addr} (hd : H d = some u) (k : Keep M (upd H d (.frz od u)) H') : Keep M H (upd H' d u) := fun b o e hb => by
  by_cases c : b = d
  · subst c
    rw [upd_same]
    rw [hd] at e
    exact e
  · rw [upd_ne c]
    exact k b o (by rw [upd_ne c]; exact e) hb
end
end FR
set_option Elab.async false
set_option linter.all false
set_option maxRecDepth 100000
/-! rules for within a block: the written part of the context is given by hand -/
namespace FR
open PySem PySem.Spec PyProof.Rows L2
section
variable {X : Cx} {K : PySem.W.Frag} {e : Expr} {f : Str} {pos : Pos} {ta : TE} {tg : Expr}
theorem pe_fldK (h : X.K = K) (he : PE X e ta) (hb : attributeBase e f X.env (eval e X.env) = eval e X.env) : PE X (.Attribute e f pos) (tFld K ta f) := h ▸ pe_fld he hb
theorem pi_tupK (h : X.K = K) (he : PE X e ta) : PI X tg e (iTup K ta) := h ▸ pi_tup he
theorem pi_listK (h : X.K = K) (he : PE X e ta) : PI X tg e (iList K ta) := h ▸ pi_list he
def rTupOf (K : PySem.W.Frag) : List V → Hp → VK → Prop := fun xs H Q => ∃ p ys, xs = [.ref p] ∧ ((SqL K H p ys ∧ ∀ l, H l = none → Q (.ref l) (upd H l (.tup ys))) ∨ (SqT K H p ys ∧ Q (.ref p) H))
theorem call_tuple_ofK (h : X.K = K) : CallR X (.type "tuple") (rTupOf K) := h ▸ call_tuple_of
theorem call_lofNK (h : X.K = K) : CallR X (.type "list") (rLofN K) := h ▸ call_lofN
end
end FR
set_option Elab.async false
set_option linter.all false
set_option maxRecDepth 100000
/-! x(..) where x is a local instance whose class has __call__ -/
namespace FR
open PySem PySem.Spec PyProof.Rows L2
theorem fn_of {K : PySem.W.Frag} {x qual : Str} {st : Stmt} {f : Addr} {fd : FuncData} (F : L2.Fun K x qual st f fd) : PySem.W.fnIn K f = true := by
  obtain ⟨oc, od, kV, doc, pm, an, cdv, ct, osl, e, lk, _⟩ := F.ex
  unfold PySem.W.fnIn
  rw [lk]
section
variable {M : Model} {A : Around} {E : Value → Shared → Prop} {s : Shared} {pos : Pos} {f : Value} {first : List Value} {Q : Value → Shared → Prop}
/-- a callee whose answer its caller keeps -/
theorem with_caller {args : List (Bool × Sem Value)} {keywords : List (Option Str × Sem Value)} (plain : (args.any (·.1) || keywords.any (·.1.isNone)) = false)
    (h : wpAny M A (evalArgs f true args keywords) (fun a t => PySem.W.Looks M t.heap (keeperOf f) .caller ∧ wpAny M A (call f (first ++ a.pos) a.kw) Q E t) E s) : wpAny M A (callWith pos f first args keywords) Q E s := by
  unfold callWith
  apply wpAny_bind
  apply wpAny_holding
  refine wpAny_mono h (fun a t z => ?_) (fun _ _ y => y)
  obtain ⟨L, z⟩ := z
  apply wpAny_bind
  apply wpAny_standAt
  simp only [plain]
  apply wpAny_bind
  refine L.here ?_
  dsimp only
  apply wpAny_bind
  refine wpAny_mono (wpAny_operateT z) (fun r u hr => ?_) (fun _ _ y => y)
  apply wpAny_bind
  apply wpAny_holding
  exact wpAny_point (wpAny_pure hr)
end
section
variable {X : Cx} {CX : CXT} {k n : Nat} {f C : Addr} {fd : FuncData} {ps ks : List Str} {sp : Sp} {dvs : List V} {ds : List Value} {E : XK} {x : Str} {p pos : Pos} {i : Nat} {e : Expr} {es : List Expr} {kws : List Keyword} {t tk : TA} {g : List Value → List Value → List Value} {gV : List V → List V → List V}
/-- the class at C has the def at f for its calls -/
structure CallsBy (K : PySem.W.Frag) (C f : Addr) : Prop where
  find : PySem.W.findIn K (.ref C) "__call__" = some (some (.ref f))
  isf : PySem.W.isFn K (.ref f) = true
  fnI : PySem.W.fnIn K f = true
def tInst (i : Nat) (C : Addr) (sp : Sp) (dvs : List V) (E : XK) (t : TA) : TE := fun σ H Q => ∃ a, σ[i]? = some (some (.ref a)) ∧ t σ H fun vs H1 => (∃ dx fs, H1 a = some (.ins C dx fs)) ∧ sp (.ref a :: (vs ++ dvs)) H1 Q E
def tInstK (i : Nat) (C : Addr) (m : Nat) (sp : Sp) (gV : List V → List V → List V) (E : XK) (tk : TA) : TE := fun σ H Q => ∃ a, σ[i]? = some (some (.ref a)) ∧ tk σ H fun zs H1 => (∃ dx fs, H1 a = some (.ins C dx fs)) ∧ zs.length = m ∧ sp (gV [.ref a] zs) H1 Q E
theorem pe_inst (hv : PE X (.Name x p) (tVar i)) (c : CallsBy X.K C f) (F : FnOk X.prog X.w X.K X.mg X.base CX k f fd ps sp) (hr : Room k X.A) (hb : Binds X.K fd ps ds) (hd : Vals dvs ds) (hx : Passes CX X E) (ha : PA X (e :: es) t)
    (he : starEach (e :: es) X.env = (false, eval e X.env) :: starEach es X.env := by rfl) (hpl : (backTo pos (starEach es X.env)).any (·.1) = false := by rfl) :
    PE X (.Call (.Name x p) (e :: es) [] pos) (tInst i C sp dvs E t) := by
  refine ⟨fun pins s σ H Q I h => ?_⟩
  obtain ⟨a, h1, h2⟩ := h
  refine wpAny_Call_Name_kw (thn (hv.run pins s σ H (fun v H' => v = .ref a ∧ t σ H' fun vs H1 => (∃ dx fs, H1 a = some (.ins C dx fs)) ∧ sp (.ref a :: (vs ++ dvs)) H1 Q E) I ⟨_, h1, rfl, h2⟩) fun u s1 hh => ?_)
  obtain ⟨v, H1, I1, r1, rfl, q⟩ := hh
  cases (show u = Value.ref a from r1)
  have run := ha.run pos pins s1 σ H1 _ I1 q
  rw [he] at run ⊢
  refine with_caller (by show ((false || (backTo pos (starEach es X.env)).any (·.1)) || false) = false; rw [hpl]; rfl) (PySem.Calls.evalArgs_plain ?_)
  refine wpAny_mono run (fun us s2 hz => ?_) (fun _ _ y => y)
  obtain ⟨vs, H2, I2, r2, ⟨dx, fs, ea⟩, q2⟩ := hz
  obtain ⟨od, J⟩ := ins_inst I2 ea
  refine ⟨PySem.W.kco_keeper J rfl, ?_⟩
  have r3 : Vals (.ref a :: (vs ++ dvs)) (.ref a :: (us ++ ds)) := .cons rfl (r2.append hd)
  have hl : ((Value.ref a :: us) ++ ds).length = ps.length := by rw [← F.len _ _ _ _ q2, r3.length]; rfl
  refine wpAny_call (PySem.W.kco_code I2.kIn J rfl c.find c.isf c.fnI (codeAny_mono (F.run X.A X.stack s2 H2 ⟨.ref a :: us, []⟩ (.ref a :: (us ++ ds)) (.ref a :: (vs ++ dvs)) Q E hr I2.env0 (hb s2 (.ref a :: us) I2.kIn hl) r3 q2) fun r s' hq => ?_))
  cases r with
  | error e => exact hx pins σ H2 s2 e s' I2 hq
  | ok fl =>
    cases fl with
    | ret u => exact I2.after hq
    | next => exact False.elim hq
    | brk => exact False.elim hq
    | cont => exact False.elim hq
theorem pe_instK (hv : PE X (.Name x p) (tVar i)) (c : CallsBy X.K C f) (F : FnOk X.prog X.w X.K X.mg X.base CX k f fd ps sp) (hr : Room k X.A) (hb : KBn X.K fd ps 1 ks g gV) (hx : Passes CX X E) (hkw : PK X kws tk)
    (hall : (backToKw pos (keywordEach kws X.env)).all (·.1.isSome) = true := by rfl) (hks : (backToKw pos (keywordEach kws X.env)).filterMap (·.1) = ks := by rfl)
    (hpl : ((backTo pos (starEach [] X.env)).any (·.1) || (backToKw pos (keywordEach kws X.env)).any (·.1.isNone)) = false := by rfl) :
    PE X (.Call (.Name x p) [] kws pos) (tInstK i C ks.length sp gV E tk) := by
  refine ⟨fun pins s σ H Q I h => ?_⟩
  obtain ⟨a, h1, h2⟩ := h
  refine wpAny_Call_Name_kw (thn (hv.run pins s σ H (fun v H' => v = .ref a ∧ tk σ H' fun zs H1 => (∃ dx fs, H1 a = some (.ins C dx fs)) ∧ zs.length = ks.length ∧ sp (gV [.ref a] zs) H1 Q E) I ⟨_, h1, rfl, h2⟩) fun u s1 hh => ?_)
  obtain ⟨v, H1, I1, r1, rfl, q⟩ := hh
  cases (show u = Value.ref a from r1)
  refine with_caller hpl (evalArgs_kw2_nil hall ?_)
  refine wpAny_mono (hkw.run pos pins s1 σ H1 _ I1 q) (fun ws s2 hz => ?_) (fun _ _ y => y)
  obtain ⟨zs, H2, I2, rz, ⟨dx, fs, ea⟩, l2, q2⟩ := hz
  obtain ⟨od, J⟩ := ins_inst I2 ea
  refine ⟨PySem.W.kco_keeper J rfl, ?_⟩
  rw [hks]
  have r1 : Vals [V.ref a] [Value.ref a] := .cons rfl .nil
  refine wpAny_call (PySem.W.kco_code I2.kIn J rfl c.find c.isf c.fnI (codeAny_mono (F.run X.A X.stack s2 H2 ⟨[.ref a], ks.zip ws⟩ (g [.ref a] ws) (gV [.ref a] zs) Q E hr I2.env0 (hb.to s2 [.ref a] ws I2.kIn rfl (rz.length.symm.trans l2)) (hb.rel r1 rz) q2) fun r s' hq => ?_))
  cases r with
  | error e => exact hx pins σ H2 s2 e s' I2 hq
  | ok fl =>
    cases fl with
    | ret u => exact I2.after hq
    | next => exact False.elim hq
    | brk => exact False.elim hq
    | cont => exact False.elim hq
end
end FR
set_option Elab.async false
set_option linter.all false
set_option maxRecDepth 100000
/-! == of two instances of one class that has no == of its own -/
namespace FR
open PySem PySem.Spec PyProof.Rows L2
section
variable {prog : Program} {w : World} {A : Around} {E : Value → Shared → Prop} {s : Shared} {K : PySem.W.Frag} {x y C : Addr} {ox oy : Obj} {od od' : Option Obj}
theorem call_objEq2 {Q : Value → Shared → Prop} (hxy : x ≠ y) (X : K.In s.heap) (I : PySem.W.InstAt s.heap x ox C od) (J : PySem.W.InstAt s.heap y oy C od') (hm : PySem.W.mroIn K C (.type "object") = some true) (hn : ox.cls ≠ .type "tuple") (hq : Q .notImplemented s) :
    wpAny (model prog w) A (call (.builtin "object.__eq__") [.ref x, .ref y]) Q E s := by
  refine wpAny_call (codeAny_call_builtin F.cmp_object.eq.plain F.cmpEntry_eq (PySem.W.check_slot F.cmpKind_eq F.cmpSplit_eq (I.type.andThen (PySem.W.looks_mroIn X hm)) (F.cmpArgs_eq _ _) ?_))
  unfold Builtin.«object.__eq__»
  repeat (first | with_reducible refine wpAny_isSame_ref_other hxy I.at_ J.at_ hn ?_ | wp_step)
  exact hq
theorem eq_insts {Q : Value → Shared → Prop} (hxy : x ≠ y) (hu : A.units < cLine) (X : K.In s.heap) (I : PySem.W.InstAt s.heap x ox C od) (J : PySem.W.InstAt s.heap y oy C od') (hm : PySem.W.mroIn K C (.type "object") = some true)
    (hs : PySem.W.findIn K (.ref C) "__eq__" = some (some (.builtin "object.__eq__"))) (hn : ox.cls ≠ .type "tuple") (hn' : oy.cls ≠ .type "tuple") (h : Q (.bool false) s) : wpAny (model prog w) A (richCompare .Eq (.ref x) (.ref y)) Q E s := by
  have one : wpAny (model prog w) A (tryCompare (.ref x) "__eq__" (.ref y)) (fun r s' => r = none ∧ s' = s) E s := by
    unfold tryCompare
    exact wpAny_bind (HN.ifBound_objEq X I hs (call_objEq2 hxy X I J hm hn (wpAny_pure ⟨rfl, rfl⟩)))
  have two : wpAny (model prog w) A (tryCompare (.ref y) "__eq__" (.ref x)) (fun r s' => r = none ∧ s' = s) E s := by
    unfold tryCompare
    exact wpAny_bind (HN.ifBound_objEq X J hs (call_objEq2 (Ne.symm hxy) X J I hm hn' (wpAny_pure ⟨rfl, rfl⟩)))
  simp only [richCompare, cmpInfo_Eq, oneThing_ref]
  refine wpAny_holding (wpAny_bind (wpAny_cRoomFor hu ?_))
  refine wpAny_bind (I.type.here (wpAny_bind (J.type.here ?_)))
  simp only [bne_self_eq_false, Bool.false_eq_true, if_false, Bool.not_false, if_true]
  refine wpAny_bind (wpAny_pure ?_)
  simp only [Bool.false_eq_true, if_false, Bool.not_false, if_true]
  refine wpAny_bind (m := tryCompare (.ref x) _ (.ref y)) (wpAny_mono one (fun r s1 z => ?_) fun _ _ e => e)
  obtain ⟨rfl, rfl⟩ := z
  refine wpAny_bind (m := tryCompare (.ref y) _ (.ref x)) (wpAny_mono two (fun r s2 z => ?_) fun _ _ e => e)
  obtain ⟨rfl, rfl⟩ := z
  exact wpAny_bind (wpAny_rule (wpAny_bind (wpAny_isSame_ref_other hxy I.at_ J.at_ hn (wpAny_pure h))))
end
section
variable {X : Cx} {C : Addr}
def rEqObj (C : Addr) : R2 := fun x y H Q => ∃ a dx fs b dy gs, x = .ref a ∧ y = .ref b ∧ a ≠ b ∧ H a = some (.ins C dx fs) ∧ H b = some (.ins C dy gs) ∧ Q (.bl false) H
theorem op_eqObj (hm : PySem.W.mroIn X.K C (.type "object") = some true) (hs : PySem.W.findIn X.K (.ref C) "__eq__" = some (some (.builtin "object.__eq__"))) (hu : X.A.units < cLine) : OpR X (compareOp .Eq) (rEqObj C) := by
  intro pins s σ H x y v u Q I rx ry h
  obtain ⟨a, dx, fs, b, dy, gs, rfl, rfl, ne, ha, hb, q⟩ := h
  cases (show v = Value.ref a from rx)
  cases (show u = Value.ref b from ry)
  obtain ⟨od, J⟩ := ins_inst I ha
  obtain ⟨od', J'⟩ := ins_inst I hb
  show wpAny _ _ (richCompare .Eq (.ref a) (.ref b)) _ _ _
  exact eq_insts ne hu I.kIn J J' hm hs (fun z => by cases z) (fun z => by cases z) ⟨.bl false, H, I, rfl, q⟩
end
end FR
set_option Elab.async false
set_option linter.all false
set_option maxRecDepth 100000
/-! a datum in a list of data, inside a comprehension -/
namespace FR
open PySem PySem.Spec PyProof.Rows L2
theorem op_inDK {X : Cx} {K : PySem.W.Frag} (hK : X.K = K) (hu : X.A.units + 65 < cLine) : OpR X (compareOp .In) (rInD K) := hK ▸ op_inD hu
end FR
set_option Elab.async false
set_option linter.all false
set_option maxRecDepth 100000
set_option maxHeartbeats 4000000
/-! text[::-1] -/
namespace FR
open PySem PySem.Spec PyProof.Rows
section
open L2
variable {X : Cx}
/-- the text backwards, as the slice picks it -/
def revT (z : Str) : Str := ⟨((Builtin.Str.strSliceIndices none none (-1) z.length).filterMap (z.cps[·]?)).toArray⟩
def tRevS (te : TE) : TE := fun σ H Q => te σ H fun x H1 => ∃ z, x = .str z ∧ (revT z).length ≤ sizeLine ∧ Q (.str (revT z)) H1
theorem pe_revS {e : Expr} {te : TE} {k : Nat} {p1 p2 p3 pos : Pos} (he : PE X e te) : PE X (.Subscript e (.Slice none none (some (.UnaryOp .USub (.Constant (.int 1) k p1) p2)) p3) pos) (tRevS te) := by
  refine ⟨fun pins s σ H Q I h => ?_⟩
  refine Subscript_ (thn (he.run pins s σ H _ I h) fun v s1 ⟨x, H1, I1, r1, q1⟩ => ?_)
  obtain ⟨z, ex, hz, q⟩ := q1
  subst ex
  obtain ⟨t, rfl⟩ := r1
  have hst : PO X (some (.UnaryOp .USub (.Constant (.int 1) k p1) p2)) (tPart (tUn (rU fun i => .int (-i)) (tC (.int 1)))) := po_some (pe_un un_neg pe_int)
  refine wpAny_Slice (thn (po_none.run pins s1 σ H1 (fun o H2 => o = none ∧ H2 = H1) I1 ⟨rfl, rfl⟩) fun vl s2 ⟨l, H2, I2, pl, el, e2⟩ => ?_)
  subst el e2
  refine thn (po_none.run pins s2 σ H2 (fun o H3 => o = none ∧ H3 = H2) I2 ⟨rfl, rfl⟩) fun vu s3 ⟨u, H3, I3, pu, eu, e3⟩ => ?_
  subst eu e3
  refine thn (hst.run pins s3 σ H3 (fun o H4 => o = some (-1) ∧ H4 = H3) I3 ⟨1, rfl, -1, rfl, rfl, rfl⟩) fun vs s4 ⟨o, H4, I4, ps, eo, e4⟩ => ?_
  subst eo e4
  have I5 : Inv X pins σ H4 { s4 with heap := s4.heap.push { cls := .type "slice", data := .fields #[vl, vu, vs] } } := I4.kept (t' := s4.toks) fun b ob q => Heap.get?_push_of_some _ q
  obtain ⟨l, rfl, el⟩ := IsPart.raw pl
  obtain ⟨u, rfl, eu⟩ := IsPart.raw pu
  obtain ⟨st, rfl, es⟩ := IsPart.raw ps
  have el : l = none := by cases l with | none => rfl | some _ => cases el
  have eu : u = none := by cases u with | none => rfl | some _ => cases eu
  subst el eu
  show wpAny (model X.prog X.w) X.A (subscriptTail e (.Slice none none (some (.UnaryOp .USub (.Constant (.int 1) k p1) p2)) p3) (.str z t) (.ref s4.heap.objs.size)) (EP X pins σ Q) X.xe { s4 with heap := s4.heap.push { cls := .type "slice", data := .fields #[_, _, _] } }
  refine tail_any (ops := [.str z t, .ref s4.heap.objs.size]) (typeIs_str _ _ _) F.slot_str_getitem.lookup ?_ (by with_unfolding_all rfl)
  refine wpAny_getItem_str_slice (l := none) (u := none) (st := st) ⟨_, Heap.get?_push_size _ rfl, rfl, rfl⟩ (by rw [es]; rfl) ?_
  have e1 : (st.map (·.1)).getD 1 = -1 := by rw [es]; rfl
  have e2 : slicePicked z none none st = Builtin.Str.strSliceIndices none none (-1) z.length := by
    unfold slicePicked
    rw [e1]
    rfl
  unfold sliceMade
  rw [e1, e2, if_neg (by simp)]
  exact ⟨hz, .str _, H4, I5.tok _, ⟨_, rfl⟩, q⟩
end
end FR
set_option Elab.async false
set_option linter.all false
set_option maxRecDepth 100000
set_option maxHeartbeats 8000000
local macro_rules | `(tactic| walk_at "sq") => `(tactic| first
  | (refine' FR.Ow.sq (i := 0) ?w ?e; (case w => assumption); (case e => rfl))
  | (refine' FR.Ow.sq (i := 1) ?w ?e; (case w => assumption); (case e => rfl))
  | (refine' FR.Ow.sq (i := 2) ?w ?e; (case w => assumption); (case e => rfl))
  | (refine' FR.Ow.sq (i := 3) ?w ?e; (case w => assumption); (case e => rfl))
  | (refine' FR.Ow.sq (i := 4) ?w ?e; (case w => assumption); (case e => rfl))
  | (refine' FR.Ow.sq (i := 5) ?w ?e; (case w => assumption); (case e => rfl))
  | (refine' FR.Ow.sq (i := 6) ?w ?e; (case w => assumption); (case e => rfl))
  | (refine' FR.Ow.sq (i := 7) ?w ?e; (case w => assumption); (case e => rfl))
  | (refine' FR.Ow.sq (i := 8) ?w ?e; (case w => assumption); (case e => rfl))
  | (refine' FR.Ow.sq (i := 9) ?w ?e; (case w => assumption); (case e => rfl))
  | (refine' FR.Ow.sq (i := 10) ?w ?e; (case w => assumption); (case e => rfl))
  | (refine' FR.Ow.sq (i := 11) ?w ?e; (case w => assumption); (case e => rfl))
  | (refine' FR.Ow.sq (i := 12) ?w ?e; (case w => assumption); (case e => rfl))
  | (refine' FR.Ow.sq (i := 13) ?w ?e; (case w => assumption); (case e => rfl))
  | assumption)
local macro_rules | `(tactic| walk_at "hp") => `(tactic| first
  | (refine' FR.Ow.get (i := 0) ?w ?e; (case w => assumption); (case e => rfl))
  | (refine' FR.Ow.get (i := 1) ?w ?e; (case w => assumption); (case e => rfl))
  | (refine' FR.Ow.get (i := 2) ?w ?e; (case w => assumption); (case e => rfl))
  | (refine' FR.Ow.get (i := 3) ?w ?e; (case w => assumption); (case e => rfl))
  | (refine' FR.Ow.get (i := 4) ?w ?e; (case w => assumption); (case e => rfl))
  | (refine' FR.Ow.get (i := 5) ?w ?e; (case w => assumption); (case e => rfl))
  | (refine' FR.Ow.get (i := 6) ?w ?e; (case w => assumption); (case e => rfl))
  | (refine' FR.Ow.get (i := 7) ?w ?e; (case w => assumption); (case e => rfl))
  | (refine' FR.Ow.get (i := 8) ?w ?e; (case w => assumption); (case e => rfl))
  | (refine' FR.Ow.get (i := 9) ?w ?e; (case w => assumption); (case e => rfl))
  | (refine' FR.Ow.get (i := 10) ?w ?e; (case w => assumption); (case e => rfl))
  | (refine' FR.Ow.get (i := 11) ?w ?e; (case w => assumption); (case e => rfl))
  | (refine' FR.Ow.get (i := 12) ?w ?e; (case w => assumption); (case e => rfl))
  | (refine' FR.Ow.get (i := 13) ?w ?e; (case w => assumption); (case e => rfl))
  | assumption)
local macro_rules | `(tactic| walk_at "ar") => `(tactic| first | assumption | omega | decide)
local macro_rules | `(tactic| walk_at "cd") => `(tactic| first
  | assumption | (with_reducible rfl) | exact (rfl : List.length _ = _) | (dsimp only; walk_at "ar") | walk_at "ar"
  | (refine And.intro (a := (_ : Int) < _) ?_ ?_ <;> walk_at "ar")
  | (refine And.intro (a := (0 : Int) ≤ _) ?_ (And.intro ?_ ?_) <;> walk_at "ar")
  | exact FR.size_le (by omega) | exact FR.size_ok (by omega)
  | (refine Or.inl (And.intro ?_ ?_) <;> walk_at "ar")
  | (refine Or.inr (And.intro ?_ ?_) <;> walk_at "ar"))
local macro_rules | `(tactic| walk_at "ty") => `(tactic| first
  | exact L2.TyOf.int _
  | exact L2.TyOf.str _
  | exact L2.TyOf.bl _
  | exact L2.TyOf.non
  | (refine' L2.TyOf.lst ?e; (case e => walk_at "hp"))
  | (refine' L2.TyOf.tup ?e; (case e => walk_at "hp"))
  | (refine' L2.TyOf.dK ?e; (case e => walk_at "hp")))
local macro_rules | `(tactic| walk_at "kit") => `(tactic| first
  | exact FR.ki_int_str
  | exact FR.ki_int_int
  | exact FR.ki_int_bool
  | exact FR.ki_int_list
  | exact FR.ki_int_tuple
  | exact FR.ki_int_dict
  | exact FR.ki_str_str
  | exact FR.ki_str_int
  | exact FR.ki_str_bool
  | exact FR.ki_str_list
  | exact FR.ki_str_tuple
  | exact FR.ki_str_dict
  | exact FR.ki_bl_str
  | exact FR.ki_bl_int
  | exact FR.ki_bl_bool
  | exact FR.ki_bl_list
  | exact FR.ki_bl_tuple
  | exact FR.ki_bl_dict
  | exact FR.ki_non_str
  | exact FR.ki_non_int
  | exact FR.ki_non_bool
  | exact FR.ki_non_list
  | exact FR.ki_non_tuple
  | exact FR.ki_non_dict
  | exact FR.ki_lst_str
  | exact FR.ki_lst_int
  | exact FR.ki_lst_bool
  | exact FR.ki_lst_list
  | exact FR.ki_lst_tuple
  | exact FR.ki_lst_dict
  | exact FR.ki_tup_str
  | exact FR.ki_tup_int
  | exact FR.ki_tup_bool
  | exact FR.ki_tup_list
  | exact FR.ki_tup_tuple
  | exact FR.ki_tup_dict
  | exact FR.ki_dK_str
  | exact FR.ki_dK_int
  | exact FR.ki_dK_bool
  | exact FR.ki_dK_list
  | exact FR.ki_dK_tuple
  | exact FR.ki_dK_dict)
local macro_rules | `(tactic| walk_at "isi") => `(tactic| (refine' ⟨_, _, _, _, _, rfl, L2.ClsV.ty _, L2.TyX.base ?k1, L2.kit_ty ?k2, ?k3⟩; (case k1 => walk_at "ty"); (case k2 => walk_at "kit")))
local macro_rules | `(tactic| walk_at "w1") => `(tactic| first
  | (refine' FR.with1 0 ?k1 ?k2 (by assumption) (by assumption) ?k3; (case k1 => assumption); (case k2 => rfl); intro W)
  | (refine' FR.with1 1 ?k1 ?k2 (by assumption) (by assumption) ?k3; (case k1 => assumption); (case k2 => rfl); intro W)
  | (refine' FR.with1 2 ?k1 ?k2 (by assumption) (by assumption) ?k3; (case k1 => assumption); (case k2 => rfl); intro W)
  | (refine' FR.with1 3 ?k1 ?k2 (by assumption) (by assumption) ?k3; (case k1 => assumption); (case k2 => rfl); intro W)
  | (refine' FR.with1 4 ?k1 ?k2 (by assumption) (by assumption) ?k3; (case k1 => assumption); (case k2 => rfl); intro W)
  | (refine' FR.with1 5 ?k1 ?k2 (by assumption) (by assumption) ?k3; (case k1 => assumption); (case k2 => rfl); intro W)
  | (refine' FR.with1 6 ?k1 ?k2 (by assumption) (by assumption) ?k3; (case k1 => assumption); (case k2 => rfl); intro W)
  | (refine' FR.with1 7 ?k1 ?k2 (by assumption) (by assumption) ?k3; (case k1 => assumption); (case k2 => rfl); intro W)
  | (refine' FR.with1 8 ?k1 ?k2 (by assumption) (by assumption) ?k3; (case k1 => assumption); (case k2 => rfl); intro W)
  | (refine' FR.with1 9 ?k1 ?k2 (by assumption) (by assumption) ?k3; (case k1 => assumption); (case k2 => rfl); intro W)
  | (refine' FR.with1 10 ?k1 ?k2 (by assumption) (by assumption) ?k3; (case k1 => assumption); (case k2 => rfl); intro W)
  | (refine' FR.with1 11 ?k1 ?k2 (by assumption) (by assumption) ?k3; (case k1 => assumption); (case k2 => rfl); intro W)
  | (refine' FR.with1 12 ?k1 ?k2 (by assumption) (by assumption) ?k3; (case k1 => assumption); (case k2 => rfl); intro W)
  | (refine' FR.with1 13 ?k1 ?k2 (by assumption) (by assumption) ?k3; (case k1 => assumption); (case k2 => rfl); intro W))
local macro_rules | `(tactic| walk_at "obj") => `(tactic| first
  | (refine FR.NewO.mk ?_; intro p H np kp hp; refine' FR.withN ?k1 np kp hp ?k2; (case k1 => assumption); intro W)
  | (refine FR.NewS.mk ?_; intro p H np sp kp hp; refine' FR.withN ?k1 np kp hp ?k2; (case k1 => assumption); intro W)
  | (refine FR.MutO.mk ?_; intro H kp hp; walk_at "w1"))
local macro_rules | `(tactic| walk_at "sz") => `(tactic| exact FR.size_ok (by (try simp only [List.length_map, List.length_append, List.length_cons, List.length_nil]); omega))
local macro_rules | `(tactic| walk_at "rd1") => `(tactic| first
  | (refine ⟨_, rfl, ?_⟩)
  | (refine ⟨_, _, rfl, rfl, ?_⟩)
  | (refine ⟨_, _, rfl, ?_⟩)
  | (refine' ⟨_, _, _, _, rfl, rfl, ?k1, ?k2, ?k3⟩; (case k1 => walk_at "hp"); (case k2 => rfl); walk_at "obj")
  | (refine' ⟨_, _, _, _, rfl, rfl, ?k1, ?k2, ?k3⟩; (case k1 => walk_at "sq"); (case k2 => rfl))
  | walk_at "obj"
  | (refine' ⟨_, _, _, rfl, rfl, ?k1, ?k2, ?k3⟩; (case k1 => walk_at "hp"); (case k2 => walk_at "sz"); walk_at "obj")
  | (refine And.intro (show List.length _ ≤ PySem.sizeLine from Nat.le_of_ble_eq_true rfl) ?_; walk_at "obj")
  | (refine' ⟨_, _, rfl, Or.inl ?k1, ?k2⟩; (case k1 => walk_at "sq"))
  | (refine FR.ifT rfl ?_) | (refine FR.ifF rfl ?_)
  | (refine And.intro (show L2.scal _ _ = true from rfl) ?_)
  | (refine And.intro (show L2.tyV _ "str" (L2.V.str _) _ from rfl) ?_)
  | (refine' And.intro (show L2.tyV _ "list" (L2.V.ref _) _ from Or.inl ⟨rfl, _, ?k1⟩) ?k2; (case k1 => walk_at "sq"))
  | (refine And.intro (Exists.intro _ rfl) ?_)
  | (refine And.intro (show L2.wipe _ _ = L2.wipe _ _ from rfl) ?_)
  | (refine And.intro (by walk_at "cd") ?_)
  | walk_at "isi")
local macro_rules | `(tactic| walk_at "rd") => `(tactic| repeat walk_at "rd1")
local macro_rules | `(tactic| walk_at "take") => `(tactic| (refine' ⟨_, _, _, _, _, _, rfl, ?k1, ?k2, ?k3, ?k4, ?k5, ?k6⟩; (case k1 => walk_at "hp"); (case k2 => assumption); (case k3 => omega); (case k4 => first | decide | omega); (case k5 => first | decide | omega); intro d x y z H d0 d1 ok kp hb; walk_at "w1"))
local macro_rules | `(tactic| walk_at "kwb") => `(tactic| (intro kV doc pm an cdv ct us ws l1 l2; match us, ws, l1, l2 with | [_], [_], _, _ => rfl))
set_option Elab.async false
set_option linter.all false
set_option maxRecDepth 100000
namespace K26
open PySem PySem.Spec PyProof.Rows L2 FR
def top (i : Nat) : Stmt := PySem.Challenge.pw_filerights_k26_deciding_entries.main.body.getD i (.Pass ⟨0, 0, 0, 0⟩)
def inCls (s : Stmt) (j : Nat) : Stmt := match s with
  | .ClassDef _ _ _ b _ _ _ _ _ _ _ => b.getD j (.Pass ⟨0, 0, 0, 0⟩)
  | _ => .Pass ⟨0, 0, 0, 0⟩
abbrev s__wall : Stmt := top 0
abbrev N__wall : List Str := ["k"]
theorem sc__wall : FnScope N__wall ["k"] (defScope s__wall) := ⟨rfl, rfl, rfl, by decide +kernel, rfl, by decide +kernel, by decide +kernel⟩
abbrev s_is_integer : Stmt := top 14
abbrev N_is_integer : List Str := ["value", "low", "high"]
theorem sc_is_integer : FnScope N_is_integer ["value", "low", "high"] (defScope s_is_integer) := ⟨rfl, rfl, rfl, by decide +kernel, rfl, by decide +kernel, by decide +kernel⟩
abbrev s_is_name : Stmt := top 15
abbrev N_is_name : List Str := ["value"]
theorem sc_is_name : FnScope N_is_name ["value"] (defScope s_is_name) := ⟨rfl, rfl, rfl, by decide +kernel, rfl, by decide +kernel, by decide +kernel⟩
abbrev s_is_user_name : Stmt := top 16
abbrev N_is_user_name : List Str := ["value"]
theorem sc_is_user_name : FnScope N_is_user_name ["value"] (defScope s_is_user_name) := ⟨rfl, rfl, rfl, by decide +kernel, rfl, by decide +kernel, by decide +kernel⟩
abbrev s_is_list : Stmt := top 17
abbrev N_is_list : List Str := ["value"]
theorem sc_is_list : FnScope N_is_list ["value"] (defScope s_is_list) := ⟨rfl, rfl, rfl, by decide +kernel, rfl, by decide +kernel, by decide +kernel⟩
abbrev s_as_rights : Stmt := top 24
abbrev N_as_rights : List Str := ["value"]
theorem sc_as_rights : FnScope N_as_rights ["value"] (defScope s_as_rights) := ⟨rfl, rfl, rfl, by decide +kernel, rfl, by decide +kernel, by decide +kernel⟩
abbrev s_as_digit : Stmt := top 25
abbrev N_as_digit : List Str := ["value"]
theorem sc_as_digit : FnScope N_as_digit ["value"] (defScope s_as_digit) := ⟨rfl, rfl, rfl, by decide +kernel, rfl, by decide +kernel, by decide +kernel⟩
abbrev s__is_letters : Stmt := top 26
abbrev N__is_letters : List Str := ["value"]
theorem sc__is_letters : FnScope N__is_letters ["value"] (defScope s__is_letters) := ⟨rfl, rfl, rfl, by decide +kernel, rfl, by decide +kernel, by decide +kernel⟩
abbrev s__digit_of : Stmt := top 27
abbrev N__digit_of : List Str := ["value"]
theorem sc__digit_of : FnScope N__digit_of ["value"] (defScope s__digit_of) := ⟨rfl, rfl, rfl, by decide +kernel, rfl, by decide +kernel, by decide +kernel⟩
abbrev s__named_rights : Stmt := top 32
abbrev N__named_rights : List Str := ["value", "named", "name"]
theorem sc__named_rights : FnScope N__named_rights ["value"] (defScope s__named_rights) := ⟨rfl, rfl, rfl, by decide +kernel, rfl, by decide +kernel, by decide +kernel⟩
abbrev s__keys_in_order : Stmt := top 33
abbrev N__keys_in_order : List Str := ["value", "strings", "key"]
theorem sc__keys_in_order : FnScope N__keys_in_order ["value"] (defScope s__keys_in_order) := ⟨rfl, rfl, rfl, by decide +kernel, rfl, by decide +kernel, by decide +kernel⟩
abbrev s_is_owner : Stmt := top 38
abbrev N_is_owner : List Str := ["people", "value"]
theorem sc_is_owner : FnScope N_is_owner ["people", "value"] (defScope s_is_owner) := ⟨rfl, rfl, rfl, by decide +kernel, rfl, by decide +kernel, by decide +kernel⟩
abbrev s_is_owner_group : Stmt := top 39
abbrev N_is_owner_group : List Str := ["people", "value"]
theorem sc_is_owner_group : FnScope N_is_owner_group ["people", "value"] (defScope s_is_owner_group) := ⟨rfl, rfl, rfl, by decide +kernel, rfl, by decide +kernel, by decide +kernel⟩
abbrev s__are_users : Stmt := top 40
abbrev N__are_users : List Str := ["value", "name"]
theorem sc__are_users : FnScope N__are_users ["value"] (defScope s__are_users) := ⟨rfl, rfl, rfl, by decide +kernel, rfl, by decide +kernel, by decide +kernel⟩
abbrev s__are_groups : Stmt := top 41
abbrev N__are_groups : List Str := ["value", "name"]
theorem sc__are_groups : FnScope N__are_groups ["value"] (defScope s__are_groups) := ⟨rfl, rfl, rfl, by decide +kernel, rfl, by decide +kernel, by decide +kernel⟩
abbrev s_granting_digits : Stmt := top 44
abbrev N_granting_digits : List Str := ["people", "user", "owner", "group", "access", "kind", "name", "digit"]
theorem sc_granting_digits : FnScope N_granting_digits ["people", "user", "owner", "group", "access"] (defScope s_granting_digits) := ⟨rfl, rfl, rfl, by decide +kernel, rfl, by decide +kernel, by decide +kernel⟩
abbrev s__fitting : Stmt := top 45
abbrev N__fitting : List Str := ["people", "user", "owner", "group", "access", "mask", "users", "held", "named", "fitting", "name"]
theorem sc__fitting : FnScope N__fitting ["people", "user", "owner", "group", "access"] (defScope s__fitting) := ⟨rfl, rfl, rfl, by decide +kernel, rfl, by decide +kernel, by decide +kernel⟩
abbrev s_cell : Stmt := top 47
abbrev N_cell : List Str := ["_law_script", "_law_k"]
theorem sc_cell : FnScope N_cell ["_law_script", "_law_k"] (defScope s_cell) := ⟨rfl, rfl, rfl, by decide +kernel, rfl, by decide +kernel, by decide +kernel⟩
abbrev s_bag : Stmt := top 48
abbrev N_bag : List Str := ["_law_number"]
theorem sc_bag : FnScope N_bag ["_law_number"] (defScope s_bag) := ⟨rfl, rfl, rfl, by decide +kernel, rfl, by decide +kernel, by decide +kernel⟩
abbrev s_take : Stmt := top 49
abbrev N_take : List Str := ["_law_bag_here", "_law_count", "_law_digit", "_law_mixed"]
theorem sc_take : FnScope N_take ["_law_bag_here", "_law_count"] (defScope s_take) := ⟨rfl, rfl, rfl, by decide +kernel, rfl, by decide +kernel, by decide +kernel⟩
abbrev s_names : Stmt := top 50
abbrev N_names : List Str := ["_law_bag_here", "_law_many", "_law_letters", "_law_stem", "_law_at", "_law_first", "_law_step", "_law_found", "_law_k", "_law_name"]
theorem sc_names : FnScope N_names ["_law_bag_here", "_law_many"] (defScope s_names) := ⟨rfl, rfl, rfl, by decide +kernel, rfl, by decide +kernel, by decide +kernel⟩
abbrev s_members : Stmt := top 51
abbrev N_members : List Str := ["_law_bag_here", "_law_folk", "_law_bands", "_law_name", "_law_found", "_law_user", "_law_left", "_law_some", "_law_k"]
theorem sc_members : FnScope N_members ["_law_bag_here"] (defScope s_members) := ⟨rfl, rfl, rfl, by decide +kernel, rfl, by decide +kernel, by decide +kernel⟩
abbrev s_all_groups : Stmt := top 52
abbrev N_all_groups : List Str := ["_law_members_here"]
theorem sc_all_groups : FnScope N_all_groups ["_law_members_here"] (defScope s_all_groups) := ⟨rfl, rfl, rfl, by decide +kernel, rfl, by decide +kernel, by decide +kernel⟩
abbrev s_text : Stmt := top 53
abbrev N_text : List Str := ["_law_digit", "_law_k"]
theorem sc_text : FnScope N_text ["_law_digit"] (defScope s_text) := ⟨rfl, rfl, rfl, by decide +kernel, rfl, by decide +kernel, by decide +kernel⟩
abbrev s_access : Stmt := top 54
abbrev N_access : List Str := ["_law_bag_here", "_law_members_here", "_law_folk", "_law_bands", "_law_some", "_law_kind", "_law_named", "_law_digit", "_law_name"]
theorem sc_access : FnScope N_access ["_law_bag_here", "_law_members_here"] (defScope s_access) := ⟨rfl, rfl, rfl, by decide +kernel, rfl, by decide +kernel, by decide +kernel⟩
abbrev s_made : Stmt := top 55
abbrev N_made : List Str := ["_law_some", "_law_folk", "_law_bands", "_law_sieve", "_law_plain", "_law_name", "_law_digit", "_law_kind"]
theorem sc_made : FnScope N_made ["_law_some"] (defScope s_made) := ⟨rfl, rfl, rfl, by decide +kernel, rfl, by decide +kernel, by decide +kernel⟩
abbrev s_case : Stmt := top 56
abbrev N_case : List Str := ["_law_members_here", "_law_user", "_law_owner", "_law_group", "_law_some", "_law_sieve", "_law_found", "_law_name"]
theorem sc_case : FnScope N_case ["_law_members_here", "_law_user", "_law_owner", "_law_group", "_law_some"] (defScope s_case) := ⟨rfl, rfl, rfl, by decide +kernel, rfl, by decide +kernel, by decide +kernel⟩
abbrev s_granted : Stmt := top 57
abbrev N_granted : List Str := ["_law_members_here", "_law_user", "_law_owner", "_law_group", "_law_some", "_law_digit", "_law_one"]
theorem sc_granted : FnScope N_granted ["_law_members_here", "_law_user", "_law_owner", "_law_group", "_law_some", "_law_digit"] (defScope s_granted) := ⟨rfl, rfl, rfl, by decide +kernel, rfl, by decide +kernel, by decide +kernel⟩
abbrev s_right : Stmt := top 58
abbrev N_right : List Str := ["_law_bag_here", "_law_judge", "_law_members_here", "_law_owner", "_law_group", "_law_some", "_law_access_here", "_law_user", "_law_case_here", "_law_first", "_law_digit", "_law_due", "_law_expected", "_law_text_here", "_law_letters", "_law_found", "_law_order", "_law_each", "_law_told", "_law_one", "_law_entry"]
theorem sc_right : FnScope N_right ["_law_bag_here", "_law_judge", "_law_members_here", "_law_owner", "_law_group", "_law_some"] (defScope s_right) := ⟨rfl, rfl, rfl, by decide +kernel, rfl, by decide +kernel, by decide +kernel⟩
abbrev s_law : Stmt := top 59
abbrev N_law : List Str := ["_law_script", "_law_k", "_law_bag_here", "_law_members_here", "_law_judge", "_law_turn", "_law_owner", "_law_bands", "_law_group", "_law_some"]
theorem sc_law : FnScope N_law ["_law_script"] (defScope s_law) := ⟨rfl, rfl, rfl, by decide +kernel, rfl, by decide +kernel, by decide +kernel⟩
abbrev s_Rights___init__ : Stmt := inCls (top 23) 0
abbrev N_Rights___init__ : List Str := ["self", "letters"]
theorem sc_Rights___init__ : FnScope N_Rights___init__ ["self", "letters"] (defScope s_Rights___init__) := ⟨rfl, rfl, rfl, by decide +kernel, rfl, by decide +kernel, by decide +kernel⟩
abbrev s_Rights_of : Stmt := inCls (top 23) 1
abbrev N_Rights_of : List Str := ["cls", "parts", "whole", "part"]
theorem sc_Rights_of : FnScope N_Rights_of ["cls", "parts"] (defScope s_Rights_of) := ⟨rfl, rfl, rfl, by decide +kernel, rfl, by decide +kernel, by decide +kernel⟩
abbrev s_Rights_from_digit : Stmt := inCls (top 23) 2
abbrev N_Rights_from_digit : List Str := ["cls", "digit"]
theorem sc_Rights_from_digit : FnScope N_Rights_from_digit ["cls", "digit"] (defScope s_Rights_from_digit) := ⟨rfl, rfl, rfl, by decide +kernel, rfl, by decide +kernel, by decide +kernel⟩
abbrev s_Rights_digit : Stmt := inCls (top 23) 3
abbrev N_Rights_digit : List Str := ["self"]
theorem sc_Rights_digit : FnScope N_Rights_digit ["self"] (defScope s_Rights_digit) := ⟨rfl, rfl, rfl, by decide +kernel, rfl, by decide +kernel, by decide +kernel⟩
abbrev s_Rights_listed : Stmt := inCls (top 23) 4
abbrev N_Rights_listed : List Str := ["self"]
theorem sc_Rights_listed : FnScope N_Rights_listed ["self"] (defScope s_Rights_listed) := ⟨rfl, rfl, rfl, by decide +kernel, rfl, by decide +kernel, by decide +kernel⟩
abbrev s_Rights_covers : Stmt := inCls (top 23) 5
abbrev N_Rights_covers : List Str := ["self", "other"]
theorem sc_Rights_covers : FnScope N_Rights_covers ["self", "other"] (defScope s_Rights_covers) := ⟨rfl, rfl, rfl, by decide +kernel, rfl, by decide +kernel, by decide +kernel⟩
abbrev s_Rights___or__ : Stmt := inCls (top 23) 6
abbrev N_Rights___or__ : List Str := ["self", "other"]
theorem sc_Rights___or__ : FnScope N_Rights___or__ ["self", "other"] (defScope s_Rights___or__) := ⟨rfl, rfl, rfl, by decide +kernel, rfl, by decide +kernel, by decide +kernel⟩
abbrev s_Rights___and__ : Stmt := inCls (top 23) 7
abbrev N_Rights___and__ : List Str := ["self", "other"]
theorem sc_Rights___and__ : FnScope N_Rights___and__ ["self", "other"] (defScope s_Rights___and__) := ⟨rfl, rfl, rfl, by decide +kernel, rfl, by decide +kernel, by decide +kernel⟩
abbrev s_Rights___sub__ : Stmt := inCls (top 23) 8
abbrev N_Rights___sub__ : List Str := ["self", "other"]
theorem sc_Rights___sub__ : FnScope N_Rights___sub__ ["self", "other"] (defScope s_Rights___sub__) := ⟨rfl, rfl, rfl, by decide +kernel, rfl, by decide +kernel, by decide +kernel⟩
abbrev s_Rights___xor__ : Stmt := inCls (top 23) 9
abbrev N_Rights___xor__ : List Str := ["self", "other"]
theorem sc_Rights___xor__ : FnScope N_Rights___xor__ ["self", "other"] (defScope s_Rights___xor__) := ⟨rfl, rfl, rfl, by decide +kernel, rfl, by decide +kernel, by decide +kernel⟩
abbrev s_Rights___invert__ : Stmt := inCls (top 23) 10
abbrev N_Rights___invert__ : List Str := ["self"]
theorem sc_Rights___invert__ : FnScope N_Rights___invert__ ["self"] (defScope s_Rights___invert__) := ⟨rfl, rfl, rfl, by decide +kernel, rfl, by decide +kernel, by decide +kernel⟩
abbrev s_Rights___eq__ : Stmt := inCls (top 23) 11
abbrev N_Rights___eq__ : List Str := ["self", "other"]
theorem sc_Rights___eq__ : FnScope N_Rights___eq__ ["self", "other"] (defScope s_Rights___eq__) := ⟨rfl, rfl, rfl, by decide +kernel, rfl, by decide +kernel, by decide +kernel⟩
abbrev s_Rights___contains__ : Stmt := inCls (top 23) 12
abbrev N_Rights___contains__ : List Str := ["self", "value"]
theorem sc_Rights___contains__ : FnScope N_Rights___contains__ ["self", "value"] (defScope s_Rights___contains__) := ⟨rfl, rfl, rfl, by decide +kernel, rfl, by decide +kernel, by decide +kernel⟩
abbrev s_Rights___len__ : Stmt := inCls (top 23) 13
abbrev N_Rights___len__ : List Str := ["self"]
theorem sc_Rights___len__ : FnScope N_Rights___len__ ["self"] (defScope s_Rights___len__) := ⟨rfl, rfl, rfl, by decide +kernel, rfl, by decide +kernel, by decide +kernel⟩
abbrev s_Rights___bool__ : Stmt := inCls (top 23) 14
abbrev N_Rights___bool__ : List Str := ["self"]
theorem sc_Rights___bool__ : FnScope N_Rights___bool__ ["self"] (defScope s_Rights___bool__) := ⟨rfl, rfl, rfl, by decide +kernel, rfl, by decide +kernel, by decide +kernel⟩
abbrev s_Rights___str__ : Stmt := inCls (top 23) 15
abbrev N_Rights___str__ : List Str := ["self", "letter"]
theorem sc_Rights___str__ : FnScope N_Rights___str__ ["self"] (defScope s_Rights___str__) := ⟨rfl, rfl, rfl, by decide +kernel, rfl, by decide +kernel, by decide +kernel⟩
abbrev s_Rights___repr__ : Stmt := inCls (top 23) 16
abbrev N_Rights___repr__ : List Str := ["self"]
theorem sc_Rights___repr__ : FnScope N_Rights___repr__ ["self"] (defScope s_Rights___repr__) := ⟨rfl, rfl, rfl, by decide +kernel, rfl, by decide +kernel, by decide +kernel⟩
abbrev s_AccessList___init__ : Stmt := inCls (top 31) 0
abbrev N_AccessList___init__ : List Str := ["self", "owner", "group", "other", "users", "groups", "mask"]
theorem sc_AccessList___init__ : FnScope N_AccessList___init__ ["self", "owner", "group", "other", "users", "groups", "mask"] (defScope s_AccessList___init__) := ⟨rfl, rfl, rfl, by decide +kernel, rfl, by decide +kernel, by decide +kernel⟩
abbrev s_AccessList__first_mask : Stmt := inCls (top 31) 1
abbrev N_AccessList__first_mask : List Str := ["self", "named"]
theorem sc_AccessList__first_mask : FnScope N_AccessList__first_mask ["self"] (defScope s_AccessList__first_mask) := ⟨rfl, rfl, rfl, by decide +kernel, rfl, by decide +kernel, by decide +kernel⟩
abbrev s_AccessList_plain : Stmt := inCls (top 31) 2
abbrev N_AccessList_plain : List Str := ["cls", "digits"]
theorem sc_AccessList_plain : FnScope N_AccessList_plain ["cls", "digits"] (defScope s_AccessList_plain) := ⟨rfl, rfl, rfl, by decide +kernel, rfl, by decide +kernel, by decide +kernel⟩
abbrev s_AccessList_everything : Stmt := inCls (top 31) 3
abbrev N_AccessList_everything : List Str := []
theorem sc_AccessList_everything : FnScope N_AccessList_everything [] (defScope s_AccessList_everything) := ⟨rfl, rfl, rfl, by decide +kernel, rfl, by decide +kernel, by decide +kernel⟩
abbrev s_AccessList_from_text : Stmt := inCls (top 31) 4
abbrev N_AccessList_from_text : List Str := ["cls", "text"]
theorem sc_AccessList_from_text : FnScope N_AccessList_from_text ["cls", "text"] (defScope s_AccessList_from_text) := ⟨rfl, rfl, rfl, by decide +kernel, rfl, by decide +kernel, by decide +kernel⟩
abbrev s_AccessList_owner : Stmt := inCls (top 31) 5
abbrev N_AccessList_owner : List Str := ["self"]
theorem sc_AccessList_owner : FnScope N_AccessList_owner ["self"] (defScope s_AccessList_owner) := ⟨rfl, rfl, rfl, by decide +kernel, rfl, by decide +kernel, by decide +kernel⟩
abbrev s_AccessList_group : Stmt := inCls (top 31) 6
abbrev N_AccessList_group : List Str := ["self"]
theorem sc_AccessList_group : FnScope N_AccessList_group ["self"] (defScope s_AccessList_group) := ⟨rfl, rfl, rfl, by decide +kernel, rfl, by decide +kernel, by decide +kernel⟩
abbrev s_AccessList_other : Stmt := inCls (top 31) 7
abbrev N_AccessList_other : List Str := ["self"]
theorem sc_AccessList_other : FnScope N_AccessList_other ["self"] (defScope s_AccessList_other) := ⟨rfl, rfl, rfl, by decide +kernel, rfl, by decide +kernel, by decide +kernel⟩
abbrev s_AccessList_mask : Stmt := inCls (top 31) 8
abbrev N_AccessList_mask : List Str := ["self"]
theorem sc_AccessList_mask : FnScope N_AccessList_mask ["self"] (defScope s_AccessList_mask) := ⟨rfl, rfl, rfl, by decide +kernel, rfl, by decide +kernel, by decide +kernel⟩
abbrev s_AccessList_digits : Stmt := inCls (top 31) 9
abbrev N_AccessList_digits : List Str := ["self"]
theorem sc_AccessList_digits : FnScope N_AccessList_digits ["self"] (defScope s_AccessList_digits) := ⟨rfl, rfl, rfl, by decide +kernel, rfl, by decide +kernel, by decide +kernel⟩
abbrev s_AccessList__middle : Stmt := inCls (top 31) 10
abbrev N_AccessList__middle : List Str := ["self"]
theorem sc_AccessList__middle : FnScope N_AccessList__middle ["self"] (defScope s_AccessList__middle) := ⟨rfl, rfl, rfl, by decide +kernel, rfl, by decide +kernel, by decide +kernel⟩
abbrev s_AccessList_users : Stmt := inCls (top 31) 11
abbrev N_AccessList_users : List Str := ["self"]
theorem sc_AccessList_users : FnScope N_AccessList_users ["self"] (defScope s_AccessList_users) := ⟨rfl, rfl, rfl, by decide +kernel, rfl, by decide +kernel, by decide +kernel⟩
abbrev s_AccessList_groups : Stmt := inCls (top 31) 12
abbrev N_AccessList_groups : List Str := ["self"]
theorem sc_AccessList_groups : FnScope N_AccessList_groups ["self"] (defScope s_AccessList_groups) := ⟨rfl, rfl, rfl, by decide +kernel, rfl, by decide +kernel, by decide +kernel⟩
abbrev s_AccessList_entries : Stmt := inCls (top 31) 13
abbrev N_AccessList_entries : List Str := ["self", "masks", "name"]
theorem sc_AccessList_entries : FnScope N_AccessList_entries ["self"] (defScope s_AccessList_entries) := ⟨rfl, rfl, rfl, by decide +kernel, rfl, by decide +kernel, by decide +kernel⟩
abbrev s_AccessList_with_entry : Stmt := inCls (top 31) 14
abbrev N_AccessList_with_entry : List Str := ["self", "kind", "rights", "name"]
theorem sc_AccessList_with_entry : FnScope N_AccessList_with_entry ["self", "kind", "rights", "name"] (defScope s_AccessList_with_entry) := ⟨rfl, rfl, rfl, by decide +kernel, rfl, by decide +kernel, by decide +kernel⟩
abbrev s_AccessList_without : Stmt := inCls (top 31) 15
abbrev N_AccessList_without : List Str := ["self", "kind", "name"]
theorem sc_AccessList_without : FnScope N_AccessList_without ["self", "kind", "name"] (defScope s_AccessList_without) := ⟨rfl, rfl, rfl, by decide +kernel, rfl, by decide +kernel, by decide +kernel⟩
abbrev s_AccessList_with_digits : Stmt := inCls (top 31) 16
abbrev N_AccessList_with_digits : List Str := ["self", "digits"]
theorem sc_AccessList_with_digits : FnScope N_AccessList_with_digits ["self", "digits"] (defScope s_AccessList_with_digits) := ⟨rfl, rfl, rfl, by decide +kernel, rfl, by decide +kernel, by decide +kernel⟩
abbrev s_AccessList_narrowed : Stmt := inCls (top 31) 17
abbrev N_AccessList_narrowed : List Str := ["self", "digits"]
theorem sc_AccessList_narrowed : FnScope N_AccessList_narrowed ["self", "digits"] (defScope s_AccessList_narrowed) := ⟨rfl, rfl, rfl, by decide +kernel, rfl, by decide +kernel, by decide +kernel⟩
abbrev s_AccessList__with_three : Stmt := inCls (top 31) 18
abbrev N_AccessList__with_three : List Str := ["self", "owner", "middle", "other"]
theorem sc_AccessList__with_three : FnScope N_AccessList__with_three ["self", "owner", "middle", "other"] (defScope s_AccessList__with_three) := ⟨rfl, rfl, rfl, by decide +kernel, rfl, by decide +kernel, by decide +kernel⟩
abbrev s_AccessList__by_entry : Stmt := inCls (top 31) 19
abbrev N_AccessList__by_entry : List Str := ["self"]
theorem sc_AccessList__by_entry : FnScope N_AccessList__by_entry ["self"] (defScope s_AccessList__by_entry) := ⟨rfl, rfl, rfl, by decide +kernel, rfl, by decide +kernel, by decide +kernel⟩
abbrev s_AccessList___eq__ : Stmt := inCls (top 31) 20
abbrev N_AccessList___eq__ : List Str := ["self", "other"]
theorem sc_AccessList___eq__ : FnScope N_AccessList___eq__ ["self", "other"] (defScope s_AccessList___eq__) := ⟨rfl, rfl, rfl, by decide +kernel, rfl, by decide +kernel, by decide +kernel⟩
abbrev s_AccessList___len__ : Stmt := inCls (top 31) 21
abbrev N_AccessList___len__ : List Str := ["self"]
theorem sc_AccessList___len__ : FnScope N_AccessList___len__ ["self"] (defScope s_AccessList___len__) := ⟨rfl, rfl, rfl, by decide +kernel, rfl, by decide +kernel, by decide +kernel⟩
abbrev s_AccessList___str__ : Stmt := inCls (top 31) 22
abbrev N_AccessList___str__ : List Str := ["self", "kind", "name", "rights"]
theorem sc_AccessList___str__ : FnScope N_AccessList___str__ ["self"] (defScope s_AccessList___str__) := ⟨rfl, rfl, rfl, by decide +kernel, rfl, by decide +kernel, by decide +kernel⟩
abbrev s_AccessList___repr__ : Stmt := inCls (top 31) 23
abbrev N_AccessList___repr__ : List Str := ["self"]
theorem sc_AccessList___repr__ : FnScope N_AccessList___repr__ ["self"] (defScope s_AccessList___repr__) := ⟨rfl, rfl, rfl, by decide +kernel, rfl, by decide +kernel, by decide +kernel⟩
abbrev s_People___init__ : Stmt := inCls (top 37) 0
abbrev N_People___init__ : List Str := ["self", "members", "user", "group"]
theorem sc_People___init__ : FnScope N_People___init__ ["self", "members"] (defScope s_People___init__) := ⟨rfl, rfl, rfl, by decide +kernel, rfl, by decide +kernel, by decide +kernel⟩
abbrev s_People_users : Stmt := inCls (top 37) 1
abbrev N_People_users : List Str := ["self"]
theorem sc_People_users : FnScope N_People_users ["self"] (defScope s_People_users) := ⟨rfl, rfl, rfl, by decide +kernel, rfl, by decide +kernel, by decide +kernel⟩
abbrev s_People_groups : Stmt := inCls (top 37) 2
abbrev N_People_groups : List Str := ["self"]
theorem sc_People_groups : FnScope N_People_groups ["self"] (defScope s_People_groups) := ⟨rfl, rfl, rfl, by decide +kernel, rfl, by decide +kernel, by decide +kernel⟩
abbrev s_People_groups_of : Stmt := inCls (top 37) 3
abbrev N_People_groups_of : List Str := ["self", "user"]
theorem sc_People_groups_of : FnScope N_People_groups_of ["self", "user"] (defScope s_People_groups_of) := ⟨rfl, rfl, rfl, by decide +kernel, rfl, by decide +kernel, by decide +kernel⟩
abbrev s_People_first_group : Stmt := inCls (top 37) 4
abbrev N_People_first_group : List Str := ["self", "user"]
theorem sc_People_first_group : FnScope N_People_first_group ["self", "user"] (defScope s_People_first_group) := ⟨rfl, rfl, rfl, by decide +kernel, rfl, by decide +kernel, by decide +kernel⟩
abbrev s_People_members : Stmt := inCls (top 37) 5
abbrev N_People_members : List Str := ["self", "group", "user"]
theorem sc_People_members : FnScope N_People_members ["self", "group"] (defScope s_People_members) := ⟨rfl, rfl, rfl, by decide +kernel, rfl, by decide +kernel, by decide +kernel⟩
abbrev s_People___contains__ : Stmt := inCls (top 37) 6
abbrev N_People___contains__ : List Str := ["self", "value"]
theorem sc_People___contains__ : FnScope N_People___contains__ ["self", "value"] (defScope s_People___contains__) := ⟨rfl, rfl, rfl, by decide +kernel, rfl, by decide +kernel, by decide +kernel⟩
abbrev s_People___len__ : Stmt := inCls (top 37) 7
abbrev N_People___len__ : List Str := ["self"]
theorem sc_People___len__ : FnScope N_People___len__ ["self"] (defScope s_People___len__) := ⟨rfl, rfl, rfl, by decide +kernel, rfl, by decide +kernel, by decide +kernel⟩
abbrev s_People___eq__ : Stmt := inCls (top 37) 8
abbrev N_People___eq__ : List Str := ["self", "other"]
theorem sc_People___eq__ : FnScope N_People___eq__ ["self", "other"] (defScope s_People___eq__) := ⟨rfl, rfl, rfl, by decide +kernel, rfl, by decide +kernel, by decide +kernel⟩
abbrev s_People___repr__ : Stmt := inCls (top 37) 9
abbrev N_People___repr__ : List Str := ["self"]
theorem sc_People___repr__ : FnScope N_People___repr__ ["self"] (defScope s_People___repr__) := ⟨rfl, rfl, rfl, by decide +kernel, rfl, by decide +kernel, by decide +kernel⟩
abbrev s_Judge___init__ : Stmt := inCls (top 43) 0
abbrev N_Judge___init__ : List Str := ["self", "people"]
theorem sc_Judge___init__ : FnScope N_Judge___init__ ["self", "people"] (defScope s_Judge___init__) := ⟨rfl, rfl, rfl, by decide +kernel, rfl, by decide +kernel, by decide +kernel⟩
abbrev s_Judge___call__ : Stmt := inCls (top 43) 1
abbrev N_Judge___call__ : List Str := ["self", "user", "owner", "group", "access", "letters", "wanted", "digit"]
theorem sc_Judge___call__ : FnScope N_Judge___call__ ["self", "user", "owner", "group", "access", "letters"] (defScope s_Judge___call__) := ⟨rfl, rfl, rfl, by decide +kernel, rfl, by decide +kernel, by decide +kernel⟩
abbrev s_Judge_deciding : Stmt := inCls (top 43) 2
abbrev N_Judge_deciding : List Str := ["self", "user", "owner", "group", "access", "letters", "wanted", "fitting", "granting", "kind", "name", "digit"]
theorem sc_Judge_deciding : FnScope N_Judge_deciding ["self", "user", "owner", "group", "access", "letters"] (defScope s_Judge_deciding) := ⟨rfl, rfl, rfl, by decide +kernel, rfl, by decide +kernel, by decide +kernel⟩
abbrev s_Judge_letters_of : Stmt := inCls (top 43) 3
abbrev N_Judge_letters_of : List Str := ["self", "user", "owner", "group", "access", "whole", "digit"]
theorem sc_Judge_letters_of : FnScope N_Judge_letters_of ["self", "user", "owner", "group", "access"] (defScope s_Judge_letters_of) := ⟨rfl, rfl, rfl, by decide +kernel, rfl, by decide +kernel, by decide +kernel⟩
abbrev s_Judge__check : Stmt := inCls (top 43) 4
abbrev N_Judge__check : List Str := ["self", "user", "owner", "group", "access"]
theorem sc_Judge__check : FnScope N_Judge__check ["self", "user", "owner", "group", "access"] (defScope s_Judge__check) := ⟨rfl, rfl, rfl, by decide +kernel, rfl, by decide +kernel, by decide +kernel⟩
structure Ads where
  f__wall : Addr
  d__wall : FuncData
  f_is_integer : Addr
  d_is_integer : FuncData
  f_is_name : Addr
  d_is_name : FuncData
  f_is_user_name : Addr
  d_is_user_name : FuncData
  f_is_list : Addr
  d_is_list : FuncData
  f_as_rights : Addr
  d_as_rights : FuncData
  f_as_digit : Addr
  d_as_digit : FuncData
  f__is_letters : Addr
  d__is_letters : FuncData
  f__digit_of : Addr
  d__digit_of : FuncData
  f__named_rights : Addr
  d__named_rights : FuncData
  f__keys_in_order : Addr
  d__keys_in_order : FuncData
  f_is_owner : Addr
  d_is_owner : FuncData
  f_is_owner_group : Addr
  d_is_owner_group : FuncData
  f__are_users : Addr
  d__are_users : FuncData
  f__are_groups : Addr
  d__are_groups : FuncData
  f_granting_digits : Addr
  d_granting_digits : FuncData
  f__fitting : Addr
  d__fitting : FuncData
  f_cell : Addr
  d_cell : FuncData
  f_bag : Addr
  d_bag : FuncData
  f_take : Addr
  d_take : FuncData
  f_names : Addr
  d_names : FuncData
  f_members : Addr
  d_members : FuncData
  f_all_groups : Addr
  d_all_groups : FuncData
  f_text : Addr
  d_text : FuncData
  f_access : Addr
  d_access : FuncData
  f_made : Addr
  d_made : FuncData
  f_case : Addr
  d_case : FuncData
  f_granted : Addr
  d_granted : FuncData
  f_right : Addr
  d_right : FuncData
  f_law : Addr
  d_law : FuncData
  f_Rights___init__ : Addr
  d_Rights___init__ : FuncData
  f_Rights_of : Addr
  d_Rights_of : FuncData
  P_Rights_of : Addr
  f_Rights_from_digit : Addr
  d_Rights_from_digit : FuncData
  P_Rights_from_digit : Addr
  f_Rights_digit : Addr
  d_Rights_digit : FuncData
  P_Rights_digit : Addr
  f_Rights___or__ : Addr
  d_Rights___or__ : FuncData
  f_Rights___eq__ : Addr
  d_Rights___eq__ : FuncData
  f_AccessList___init__ : Addr
  d_AccessList___init__ : FuncData
  f_AccessList__first_mask : Addr
  d_AccessList__first_mask : FuncData
  f_AccessList_owner : Addr
  d_AccessList_owner : FuncData
  P_AccessList_owner : Addr
  f_AccessList_group : Addr
  d_AccessList_group : FuncData
  P_AccessList_group : Addr
  f_AccessList_other : Addr
  d_AccessList_other : FuncData
  P_AccessList_other : Addr
  f_AccessList_mask : Addr
  d_AccessList_mask : FuncData
  P_AccessList_mask : Addr
  f_AccessList_users : Addr
  d_AccessList_users : FuncData
  f_AccessList_groups : Addr
  d_AccessList_groups : FuncData
  f_AccessList_entries : Addr
  d_AccessList_entries : FuncData
  f_People___init__ : Addr
  d_People___init__ : FuncData
  f_People_groups : Addr
  d_People_groups : FuncData
  f_People_groups_of : Addr
  d_People_groups_of : FuncData
  f_People___contains__ : Addr
  d_People___contains__ : FuncData
  f_Judge___init__ : Addr
  d_Judge___init__ : FuncData
  f_Judge___call__ : Addr
  d_Judge___call__ : FuncData
  f_Judge_deciding : Addr
  d_Judge_deciding : FuncData
  f_Judge_letters_of : Addr
  d_Judge_letters_of : FuncData
  f_Judge__check : Addr
  d_Judge__check : FuncData
  C_Rights : Addr
  C_AccessList : Addr
  C_People : Addr
  C_Judge : Addr
  K_DIGITS : Addr
  K_WORDS : Addr
  K_KIND_SIGNS : Addr
structure Txt (w : World) (K : PySem.W.Frag) (mg : Str → Option Value) (A : Ads) : Prop where
  F__wall : Fun K "_wall" "_wall" s__wall A.f__wall A.d__wall
  B__wall : Binds K A.d__wall ["k"] []
  g__wall : mg "_wall" = some (.ref A.f__wall)
  F_is_integer : Fun K "is_integer" "is_integer" s_is_integer A.f_is_integer A.d_is_integer
  B_is_integer : Binds K A.d_is_integer ["value", "low", "high"] []
  g_is_integer : mg "is_integer" = some (.ref A.f_is_integer)
  F_is_name : Fun K "is_name" "is_name" s_is_name A.f_is_name A.d_is_name
  B_is_name : Binds K A.d_is_name ["value"] []
  g_is_name : mg "is_name" = some (.ref A.f_is_name)
  F_is_user_name : Fun K "is_user_name" "is_user_name" s_is_user_name A.f_is_user_name A.d_is_user_name
  B_is_user_name : Binds K A.d_is_user_name ["value"] []
  g_is_user_name : mg "is_user_name" = some (.ref A.f_is_user_name)
  F_is_list : Fun K "is_list" "is_list" s_is_list A.f_is_list A.d_is_list
  B_is_list : Binds K A.d_is_list ["value"] []
  g_is_list : mg "is_list" = some (.ref A.f_is_list)
  F_as_rights : Fun K "as_rights" "as_rights" s_as_rights A.f_as_rights A.d_as_rights
  B_as_rights : Binds K A.d_as_rights ["value"] []
  g_as_rights : mg "as_rights" = some (.ref A.f_as_rights)
  F_as_digit : Fun K "as_digit" "as_digit" s_as_digit A.f_as_digit A.d_as_digit
  B_as_digit : Binds K A.d_as_digit ["value"] []
  g_as_digit : mg "as_digit" = some (.ref A.f_as_digit)
  F__is_letters : Fun K "_is_letters" "_is_letters" s__is_letters A.f__is_letters A.d__is_letters
  B__is_letters : Binds K A.d__is_letters ["value"] []
  g__is_letters : mg "_is_letters" = some (.ref A.f__is_letters)
  F__digit_of : Fun K "_digit_of" "_digit_of" s__digit_of A.f__digit_of A.d__digit_of
  B__digit_of : Binds K A.d__digit_of ["value"] []
  g__digit_of : mg "_digit_of" = some (.ref A.f__digit_of)
  F__named_rights : Fun K "_named_rights" "_named_rights" s__named_rights A.f__named_rights A.d__named_rights
  B__named_rights : Binds K A.d__named_rights ["value"] []
  g__named_rights : mg "_named_rights" = some (.ref A.f__named_rights)
  F__keys_in_order : Fun K "_keys_in_order" "_keys_in_order" s__keys_in_order A.f__keys_in_order A.d__keys_in_order
  B__keys_in_order : Binds K A.d__keys_in_order ["value"] []
  g__keys_in_order : mg "_keys_in_order" = some (.ref A.f__keys_in_order)
  F_is_owner : Fun K "is_owner" "is_owner" s_is_owner A.f_is_owner A.d_is_owner
  B_is_owner : Binds K A.d_is_owner ["people", "value"] []
  g_is_owner : mg "is_owner" = some (.ref A.f_is_owner)
  F_is_owner_group : Fun K "is_owner_group" "is_owner_group" s_is_owner_group A.f_is_owner_group A.d_is_owner_group
  B_is_owner_group : Binds K A.d_is_owner_group ["people", "value"] []
  g_is_owner_group : mg "is_owner_group" = some (.ref A.f_is_owner_group)
  F__are_users : Fun K "_are_users" "_are_users" s__are_users A.f__are_users A.d__are_users
  B__are_users : Binds K A.d__are_users ["value"] []
  g__are_users : mg "_are_users" = some (.ref A.f__are_users)
  F__are_groups : Fun K "_are_groups" "_are_groups" s__are_groups A.f__are_groups A.d__are_groups
  B__are_groups : Binds K A.d__are_groups ["value"] []
  g__are_groups : mg "_are_groups" = some (.ref A.f__are_groups)
  F_granting_digits : Fun K "granting_digits" "granting_digits" s_granting_digits A.f_granting_digits A.d_granting_digits
  B_granting_digits : Binds K A.d_granting_digits ["people", "user", "owner", "group", "access"] []
  g_granting_digits : mg "granting_digits" = some (.ref A.f_granting_digits)
  F__fitting : Fun K "_fitting" "_fitting" s__fitting A.f__fitting A.d__fitting
  B__fitting : Binds K A.d__fitting ["people", "user", "owner", "group", "access"] []
  g__fitting : mg "_fitting" = some (.ref A.f__fitting)
  F_cell : Fun K "_law_cell" "_law_cell" s_cell A.f_cell A.d_cell
  B_cell : Binds K A.d_cell ["_law_script", "_law_k"] []
  g_cell : mg "_law_cell" = some (.ref A.f_cell)
  F_bag : Fun K "_law_bag" "_law_bag" s_bag A.f_bag A.d_bag
  B_bag : Binds K A.d_bag ["_law_number"] []
  g_bag : mg "_law_bag" = some (.ref A.f_bag)
  F_take : Fun K "_law_take" "_law_take" s_take A.f_take A.d_take
  B_take : Binds K A.d_take ["_law_bag_here", "_law_count"] []
  g_take : mg "_law_take" = some (.ref A.f_take)
  F_names : Fun K "_law_names" "_law_names" s_names A.f_names A.d_names
  B_names : Binds K A.d_names ["_law_bag_here", "_law_many"] []
  g_names : mg "_law_names" = some (.ref A.f_names)
  F_members : Fun K "_law_members" "_law_members" s_members A.f_members A.d_members
  B_members : Binds K A.d_members ["_law_bag_here"] []
  g_members : mg "_law_members" = some (.ref A.f_members)
  F_all_groups : Fun K "_law_all_groups" "_law_all_groups" s_all_groups A.f_all_groups A.d_all_groups
  B_all_groups : Binds K A.d_all_groups ["_law_members_here"] []
  g_all_groups : mg "_law_all_groups" = some (.ref A.f_all_groups)
  F_text : Fun K "_law_text" "_law_text" s_text A.f_text A.d_text
  B_text : Binds K A.d_text ["_law_digit"] []
  g_text : mg "_law_text" = some (.ref A.f_text)
  F_access : Fun K "_law_access" "_law_access" s_access A.f_access A.d_access
  B_access : Binds K A.d_access ["_law_bag_here", "_law_members_here"] []
  g_access : mg "_law_access" = some (.ref A.f_access)
  F_made : Fun K "_law_made" "_law_made" s_made A.f_made A.d_made
  B_made : Binds K A.d_made ["_law_some"] []
  g_made : mg "_law_made" = some (.ref A.f_made)
  F_case : Fun K "_law_case" "_law_case" s_case A.f_case A.d_case
  B_case : Binds K A.d_case ["_law_members_here", "_law_user", "_law_owner", "_law_group", "_law_some"] []
  g_case : mg "_law_case" = some (.ref A.f_case)
  F_granted : Fun K "_law_granted" "_law_granted" s_granted A.f_granted A.d_granted
  B_granted : Binds K A.d_granted ["_law_members_here", "_law_user", "_law_owner", "_law_group", "_law_some", "_law_digit"] []
  g_granted : mg "_law_granted" = some (.ref A.f_granted)
  F_right : Fun K "_law_right" "_law_right" s_right A.f_right A.d_right
  B_right : Binds K A.d_right ["_law_bag_here", "_law_judge", "_law_members_here", "_law_owner", "_law_group", "_law_some"] []
  g_right : mg "_law_right" = some (.ref A.f_right)
  F_law : Fun K "law" "law" s_law A.f_law A.d_law
  B_law : Binds K A.d_law ["_law_script"] []
  g_law : mg "law" = some (.ref A.f_law)
  F_Rights___init__ : FunD K "__init__" "Rights.__init__" (defArgs s_Rights___init__) (defBody s_Rights___init__) (defScope s_Rights___init__) [.str ""] [] A.f_Rights___init__ A.d_Rights___init__
  me_Rights___init__ : Meth K A.C_Rights "__init__" A.f_Rights___init__
  F_Rights_of : Fun K "of" "Rights.of" s_Rights_of A.f_Rights_of A.d_Rights_of
  cm_Rights_of : ClX.CMet K A.C_Rights (.type "type") "of" A.P_Rights_of A.f_Rights_of
  F_Rights_from_digit : Fun K "from_digit" "Rights.from_digit" s_Rights_from_digit A.f_Rights_from_digit A.d_Rights_from_digit
  B_Rights_from_digit : Binds K A.d_Rights_from_digit ["cls", "digit"] []
  cm_Rights_from_digit : ClX.CMet K A.C_Rights (.type "type") "from_digit" A.P_Rights_from_digit A.f_Rights_from_digit
  F_Rights_digit : Fun K "digit" "Rights.digit" s_Rights_digit A.f_Rights_digit A.d_Rights_digit
  B_Rights_digit : Binds K A.d_Rights_digit ["self"] []
  pr_Rights_digit : PropOf K A.C_Rights "digit" A.P_Rights_digit A.f_Rights_digit
  F_Rights___or__ : Fun K "__or__" "Rights.__or__" s_Rights___or__ A.f_Rights___or__ A.d_Rights___or__
  B_Rights___or__ : Binds K A.d_Rights___or__ ["self", "other"] []
  me_Rights___or__ : Meth K A.C_Rights "__or__" A.f_Rights___or__
  F_Rights___eq__ : Fun K "__eq__" "Rights.__eq__" s_Rights___eq__ A.f_Rights___eq__ A.d_Rights___eq__
  B_Rights___eq__ : Binds K A.d_Rights___eq__ ["self", "other"] []
  me_Rights___eq__ : Meth K A.C_Rights "__eq__" A.f_Rights___eq__
  F_AccessList___init__ : FunD K "__init__" "AccessList.__init__" (defArgs s_AccessList___init__) (defBody s_AccessList___init__) (defScope s_AccessList___init__) [] [("users", .non), ("groups", .non), ("mask", .non)] A.f_AccessList___init__ A.d_AccessList___init__
  me_AccessList___init__ : Meth K A.C_AccessList "__init__" A.f_AccessList___init__
  F_AccessList__first_mask : Fun K "_first_mask" "AccessList._first_mask" s_AccessList__first_mask A.f_AccessList__first_mask A.d_AccessList__first_mask
  B_AccessList__first_mask : Binds K A.d_AccessList__first_mask ["self"] []
  me_AccessList__first_mask : Meth K A.C_AccessList "_first_mask" A.f_AccessList__first_mask
  F_AccessList_owner : Fun K "owner" "AccessList.owner" s_AccessList_owner A.f_AccessList_owner A.d_AccessList_owner
  B_AccessList_owner : Binds K A.d_AccessList_owner ["self"] []
  pr_AccessList_owner : PropOf K A.C_AccessList "owner" A.P_AccessList_owner A.f_AccessList_owner
  F_AccessList_group : Fun K "group" "AccessList.group" s_AccessList_group A.f_AccessList_group A.d_AccessList_group
  B_AccessList_group : Binds K A.d_AccessList_group ["self"] []
  pr_AccessList_group : PropOf K A.C_AccessList "group" A.P_AccessList_group A.f_AccessList_group
  F_AccessList_other : Fun K "other" "AccessList.other" s_AccessList_other A.f_AccessList_other A.d_AccessList_other
  B_AccessList_other : Binds K A.d_AccessList_other ["self"] []
  pr_AccessList_other : PropOf K A.C_AccessList "other" A.P_AccessList_other A.f_AccessList_other
  F_AccessList_mask : Fun K "mask" "AccessList.mask" s_AccessList_mask A.f_AccessList_mask A.d_AccessList_mask
  B_AccessList_mask : Binds K A.d_AccessList_mask ["self"] []
  pr_AccessList_mask : PropOf K A.C_AccessList "mask" A.P_AccessList_mask A.f_AccessList_mask
  F_AccessList_users : Fun K "users" "AccessList.users" s_AccessList_users A.f_AccessList_users A.d_AccessList_users
  B_AccessList_users : Binds K A.d_AccessList_users ["self"] []
  me_AccessList_users : Meth K A.C_AccessList "users" A.f_AccessList_users
  F_AccessList_groups : Fun K "groups" "AccessList.groups" s_AccessList_groups A.f_AccessList_groups A.d_AccessList_groups
  B_AccessList_groups : Binds K A.d_AccessList_groups ["self"] []
  me_AccessList_groups : Meth K A.C_AccessList "groups" A.f_AccessList_groups
  F_AccessList_entries : Fun K "entries" "AccessList.entries" s_AccessList_entries A.f_AccessList_entries A.d_AccessList_entries
  B_AccessList_entries : Binds K A.d_AccessList_entries ["self"] []
  me_AccessList_entries : Meth K A.C_AccessList "entries" A.f_AccessList_entries
  F_People___init__ : Fun K "__init__" "People.__init__" s_People___init__ A.f_People___init__ A.d_People___init__
  B_People___init__ : Binds K A.d_People___init__ ["self", "members"] []
  me_People___init__ : Meth K A.C_People "__init__" A.f_People___init__
  F_People_groups : Fun K "groups" "People.groups" s_People_groups A.f_People_groups A.d_People_groups
  B_People_groups : Binds K A.d_People_groups ["self"] []
  me_People_groups : Meth K A.C_People "groups" A.f_People_groups
  F_People_groups_of : Fun K "groups_of" "People.groups_of" s_People_groups_of A.f_People_groups_of A.d_People_groups_of
  B_People_groups_of : Binds K A.d_People_groups_of ["self", "user"] []
  me_People_groups_of : Meth K A.C_People "groups_of" A.f_People_groups_of
  F_People___contains__ : Fun K "__contains__" "People.__contains__" s_People___contains__ A.f_People___contains__ A.d_People___contains__
  B_People___contains__ : Binds K A.d_People___contains__ ["self", "value"] []
  me_People___contains__ : Meth K A.C_People "__contains__" A.f_People___contains__
  F_Judge___init__ : Fun K "__init__" "Judge.__init__" s_Judge___init__ A.f_Judge___init__ A.d_Judge___init__
  B_Judge___init__ : Binds K A.d_Judge___init__ ["self", "people"] []
  me_Judge___init__ : Meth K A.C_Judge "__init__" A.f_Judge___init__
  F_Judge___call__ : Fun K "__call__" "Judge.__call__" s_Judge___call__ A.f_Judge___call__ A.d_Judge___call__
  B_Judge___call__ : Binds K A.d_Judge___call__ ["self", "user", "owner", "group", "access", "letters"] []
  me_Judge___call__ : Meth K A.C_Judge "__call__" A.f_Judge___call__
  F_Judge_deciding : Fun K "deciding" "Judge.deciding" s_Judge_deciding A.f_Judge_deciding A.d_Judge_deciding
  B_Judge_deciding : Binds K A.d_Judge_deciding ["self", "user", "owner", "group", "access", "letters"] []
  me_Judge_deciding : Meth K A.C_Judge "deciding" A.f_Judge_deciding
  F_Judge_letters_of : Fun K "letters_of" "Judge.letters_of" s_Judge_letters_of A.f_Judge_letters_of A.d_Judge_letters_of
  B_Judge_letters_of : Binds K A.d_Judge_letters_of ["self", "user", "owner", "group", "access"] []
  me_Judge_letters_of : Meth K A.C_Judge "letters_of" A.f_Judge_letters_of
  F_Judge__check : Fun K "_check" "Judge._check" s_Judge__check A.f_Judge__check A.d_Judge__check
  B_Judge__check : Binds K A.d_Judge__check ["self", "user", "owner", "group", "access"] []
  me_Judge__check : Meth K A.C_Judge "_check" A.f_Judge__check
  gC_Rights : mg "Rights" = some (.ref A.C_Rights)
  c_Rights : ∃ u, mg "Rights" = some u ∧ RelV (.ref A.C_Rights) u
  cl_Rights : Cls K A.C_Rights
  mk_Rights : Mk K A.C_Rights A.f_Rights___init__
  cr_Rights : ClX.CRead K A.C_Rights (.type "type")
  in_Rights : C8.InsC K A.C_Rights
  sf_Rights : PySem.W.selfFirst K A.C_Rights = true
  cd_Rights : ∃ cd, PySem.W.clsIn K A.C_Rights = some cd ∧ cd.mro = [.ref A.C_Rights, .type "object"]
  ne_Rights : PySem.W.findIn K (.ref A.C_Rights) "__ne__" = some (some (.builtin "object.__ne__"))
  na_Rights__digit : NoAttr K A.C_Rights "_digit"
  nf_Rights_str : PySem.W.notFirst K A.C_Rights (.type "str") = true
  kt_Rights_str : PySem.W.kitOne K (.type "str") (.ref A.C_Rights) = some false
  gC_AccessList : mg "AccessList" = some (.ref A.C_AccessList)
  c_AccessList : ∃ u, mg "AccessList" = some u ∧ RelV (.ref A.C_AccessList) u
  cl_AccessList : Cls K A.C_AccessList
  mk_AccessList : Mk K A.C_AccessList A.f_AccessList___init__
  cr_AccessList : ClX.CRead K A.C_AccessList (.type "type")
  in_AccessList : C8.InsC K A.C_AccessList
  sf_AccessList : PySem.W.selfFirst K A.C_AccessList = true
  cd_AccessList : ∃ cd, PySem.W.clsIn K A.C_AccessList = some cd ∧ cd.mro = [.ref A.C_AccessList, .type "object"]
  ne_AccessList : PySem.W.findIn K (.ref A.C_AccessList) "__ne__" = some (some (.builtin "object.__ne__"))
  na_AccessList__owner : NoAttr K A.C_AccessList "_owner"
  na_AccessList__group : NoAttr K A.C_AccessList "_group"
  na_AccessList__other : NoAttr K A.C_AccessList "_other"
  na_AccessList__users : NoAttr K A.C_AccessList "_users"
  na_AccessList__groups : NoAttr K A.C_AccessList "_groups"
  na_AccessList__mask : NoAttr K A.C_AccessList "_mask"
  gC_People : mg "People" = some (.ref A.C_People)
  c_People : ∃ u, mg "People" = some u ∧ RelV (.ref A.C_People) u
  cl_People : Cls K A.C_People
  mk_People : Mk K A.C_People A.f_People___init__
  cr_People : ClX.CRead K A.C_People (.type "type")
  in_People : C8.InsC K A.C_People
  sf_People : PySem.W.selfFirst K A.C_People = true
  cd_People : ∃ cd, PySem.W.clsIn K A.C_People = some cd ∧ cd.mro = [.ref A.C_People, .type "object"]
  ne_People : PySem.W.findIn K (.ref A.C_People) "__ne__" = some (some (.builtin "object.__ne__"))
  na_People__held : NoAttr K A.C_People "_held"
  na_People__groups : NoAttr K A.C_People "_groups"
  gC_Judge : mg "Judge" = some (.ref A.C_Judge)
  c_Judge : ∃ u, mg "Judge" = some u ∧ RelV (.ref A.C_Judge) u
  cl_Judge : Cls K A.C_Judge
  mk_Judge : Mk K A.C_Judge A.f_Judge___init__
  cr_Judge : ClX.CRead K A.C_Judge (.type "type")
  in_Judge : C8.InsC K A.C_Judge
  sf_Judge : PySem.W.selfFirst K A.C_Judge = true
  cd_Judge : ∃ cd, PySem.W.clsIn K A.C_Judge = some cd ∧ cd.mro = [.ref A.C_Judge, .type "object"]
  ne_Judge : PySem.W.findIn K (.ref A.C_Judge) "__ne__" = some (some (.builtin "object.__ne__"))
  na_Judge__people : NoAttr K A.C_Judge "_people"
  c_LONGEST_NAME : ∃ u, mg "LONGEST_NAME" = some u ∧ RelV (.int 8) u
  c_LETTERS : ∃ u, mg "LETTERS" = some u ∧ RelV (.str "rwx") u
  c_ALL_DIGIT : ∃ u, mg "ALL_DIGIT" = some u ∧ RelV (.int 7) u
  c_DIGITS : ∃ u, mg "DIGITS" = some u ∧ RelV (.ref A.K_DIGITS) u
  kd_DIGITS : ∃ es n, KDict K w A.K_DIGITS es n
  at_DIGITS_ : KDct K w A.K_DIGITS "" (.int 0)
  at_DIGITS_x : KDct K w A.K_DIGITS "x" (.int 1)
  at_DIGITS_w : KDct K w A.K_DIGITS "w" (.int 2)
  at_DIGITS_wx : KDct K w A.K_DIGITS "wx" (.int 3)
  at_DIGITS_xw : KDct K w A.K_DIGITS "xw" (.int 3)
  at_DIGITS_r : KDct K w A.K_DIGITS "r" (.int 4)
  at_DIGITS_rx : KDct K w A.K_DIGITS "rx" (.int 5)
  at_DIGITS_xr : KDct K w A.K_DIGITS "xr" (.int 5)
  at_DIGITS_rw : KDct K w A.K_DIGITS "rw" (.int 6)
  at_DIGITS_wr : KDct K w A.K_DIGITS "wr" (.int 6)
  at_DIGITS_rwx : KDct K w A.K_DIGITS "rwx" (.int 7)
  at_DIGITS_rxw : KDct K w A.K_DIGITS "rxw" (.int 7)
  at_DIGITS_wrx : KDct K w A.K_DIGITS "wrx" (.int 7)
  at_DIGITS_wxr : KDct K w A.K_DIGITS "wxr" (.int 7)
  at_DIGITS_xrw : KDct K w A.K_DIGITS "xrw" (.int 7)
  at_DIGITS_xwr : KDct K w A.K_DIGITS "xwr" (.int 7)
  c_WORDS : ∃ u, mg "WORDS" = some u ∧ RelV (.ref A.K_WORDS) u
  tu_WORDS : ∃ o its n, List.lookup A.K_WORDS K = some o ∧ o.cls = .type "tuple" ∧ o.data = .seq its n ∧ its.size ≤ sizeLine ∧ Vals [.str "", .str "x", .str "w", .str "wx", .str "r", .str "rx", .str "rw", .str "rwx"] its.toList
  c_MOST_NAMED : ∃ u, mg "MOST_NAMED" = some u ∧ RelV (.int 6) u
  c_KIND_SIGNS : ∃ u, mg "KIND_SIGNS" = some u ∧ RelV (.ref A.K_KIND_SIGNS) u
  kd_KIND_SIGNS : ∃ es n, KDict K w A.K_KIND_SIGNS es n
  at_KIND_SIGNS_owner : KDct K w A.K_KIND_SIGNS "owner" (.str "u")
  at_KIND_SIGNS_user : KDct K w A.K_KIND_SIGNS "user" (.str "u")
  at_KIND_SIGNS_group : KDct K w A.K_KIND_SIGNS "group" (.str "g")
  at_KIND_SIGNS_named : KDct K w A.K_KIND_SIGNS "named" (.str "g")
  at_KIND_SIGNS_mask : KDct K w A.K_KIND_SIGNS "mask" (.str "m")
  at_KIND_SIGNS_other : KDct K w A.K_KIND_SIGNS "other" (.str "o")
  c_MOST_USERS : ∃ u, mg "MOST_USERS" = some u ∧ RelV (.int 6) u
  c_MOST_GROUPS : ∃ u, mg "MOST_GROUPS" = some u ∧ RelV (.int 6) u
  b_all : mg "all" = none
  b_any : mg "any" = none
  b_bool : mg "bool" = none
  b_dict : mg "dict" = none
  b_int : mg "int" = none
  b_isinstance : mg "isinstance" = none
  b_len : mg "len" = none
  b_list : mg "list" = none
  b_max : mg "max" = none
  b_min : mg "min" = none
  b_range : mg "range" = none
  b_set : mg "set" = none
  b_sorted : mg "sorted" = none
  b_str : mg "str" = none
  b_sum : mg "sum" = none
  b_tuple : mg "tuple" = none


end K26
namespace K26
open PySem PySem.Spec PyProof.Rows L2 FR TL
open C8 (pss_cut pe_gc)
section
variable {P : Program} {w : World} {K : PySem.W.Frag} {mg : Str → Option Value} {base : Heap} {A : Ads}
set_option pp.maxSteps 120
/-- a user's name -/
def Us (s : Str) : Prop := Nm s ∧ s ≠ Str.ofString "root"
def Uss (xs : List Str) : Prop := ∀ x ∈ xs, Us x
theorem ok_is_name (T : Txt w K mg A) : FnOk P w K mg base CX0 1 A.f_is_name A.d_is_name ["value"] (fun vs H Q _ => ∃ s, vs = [.str s] ∧ Nm s ∧ Q (.bl true) H) := by
  refine T.F_is_name.ok sc_is_name (fun vs H Q E h => ?_) (fun cdv A_ outer s_ H vs Q E hr h => ?_)
  · obtain ⟨s, rfl, _⟩ := h
    rfl
  · obtain ⟨s, rfl, n, q⟩ := h
    refine ⟨_, (pss_cons (ps_if (PW.pt (pw_or (pt_not (pt_val (pe_callB call_isi (by rfl) T.b_isinstance (by decide +kernel) (pa_cons (pv 0) (pa_cons (pe_bltn (v := .ty "str") rfl T.b_str (by decide +kernel) rfl) pa_nil))))) (pw_or1 (pt_cmpR op_gt (pe_callB call_len_str (by rfl) T.b_len PySem.boot_len (pa_cons (pv 0) pa_nil)) (pe_gc rfl T.c_LONGEST_NAME) (nomark _))))) (pss_one (ps_ret pe_bl)) pss_nil)
  (pss_one (ps_ret (pe_and (pe_bm0 PySem.F.plainAttrs_str PySem.F.slot_str_isascii PySem.F.type_str_isascii mt_isascii (pv 0)) (pe_and (pe_bm0 PySem.F.plainAttrs_str PySem.F.slot_str_isalpha PySem.F.type_str_isalpha mt_isalpha (pv 0)) (pe_one (pe_bm0 PySem.F.plainAttrs_str PySem.F.slot_str_islower PySem.F.type_str_islower mt_islower (pv 0)))))))), ?_⟩
    have l1 := n.l1
    have hz : s.length ≤ sizeLine := size_le (by omega)
    have ea := isascii_asc n.asc
    have e1 := n.alpha
    have e2 := n.lower
    walk_at "rd"
    refine ifD (fun c => ?_) (fun c => ?_)
    · omega
    walk_at "rd"
    refine ifT ea ?_
    walk_at "rd"
    refine ifT e1 ?_
    walk_at "rd"
    show Q (.bl (Txt.islower s)) H
    rw [e2]
    exact q
theorem ok_is_user_name (T : Txt w K mg A) : FnOk P w K mg base CX0 2 A.f_is_user_name A.d_is_user_name ["value"] (fun vs H Q _ => ∃ s, vs = [.str s] ∧ Us s ∧ Q (.bl true) H) := by
  refine T.F_is_user_name.ok sc_is_user_name (fun vs H Q E h => ?_) (fun cdv A_ outer s_ H vs Q E hr h => ?_)
  · obtain ⟨s, rfl, _⟩ := h
    rfl
  · obtain ⟨s, rfl, n, q⟩ := h
    refine ⟨_, (pss_one (ps_ret (pe_and (pe_call (ok_is_name T) (hr.mono (by decide)) (by rfl) T.g_is_name T.F_is_name.kp T.B_is_name .nil pass0 (pa_cons (pv 0) pa_nil)) (pe_one (pe_cmpR op_ne (pv 0) pe_str (nomark _)))))), ?_⟩
    walk_at "rd"
    refine ⟨n.1, _, rfl, ?_⟩
    refine ifT rfl ?_
    walk_at "rd"
    show Q (.bl (!decide (V.str s = V.str (Str.ofString "root")))) H
    rw [decide_eq_false (fun h => n.2 (V.str.inj h))]
    exact q
/-- a list or a tuple of these texts -/
def Sq (H : Hp) (x : V) (xs : List Str) : Prop := ∃ p, x = .ref p ∧ (H p = some (.lst (xs.map V.str)) ∨ H p = some (.tup (xs.map V.str)))
theorem Sq.tx {H : Hp} {x : V} {xs : List Str} (h : Sq H x xs) : TxSq K H x xs := by
  obtain ⟨p, rfl, h | h⟩ := h
  · exact ⟨p, rfl, .inl (.inl (Rd.of h))⟩
  · exact ⟨p, rfl, .inr (.inl (Rd.of h))⟩
theorem Sq.keep {H H' : Hp} {x : V} {xs : List Str} (h : Sq H x xs) (k : Keep [] H H') : Sq H' x xs := by
  obtain ⟨p, rfl, h | h⟩ := h
  · exact ⟨p, rfl, .inl (k _ _ h (by simp))⟩
  · exact ⟨p, rfl, .inr (k _ _ h (by simp))⟩
def lt2 : HO := .tup [V.ty "list", V.ty "tuple"]
theorem ok_is_list (T : Txt w K mg A) : FnOk P w K mg base CX0 1 A.f_is_list A.d_is_list ["value"] (fun vs H Q _ => ∃ x xs, vs = [x] ∧ Sq H x xs ∧ ∀ H', Keep [] H H' → Q (.bl true) H') := by
  refine T.F_is_list.ok sc_is_list (fun vs H Q E h => ?_) (fun cdv A_ outer s_ H vs Q E hr h => ?_)
  · obtain ⟨x, xs, rfl, _⟩ := h
    rfl
  · obtain ⟨_, xs, rfl, ⟨p, rfl, hp⟩, q⟩ := h
    refine ⟨_, (pss_one (ps_ret (pe_callB call_isiT (by rfl) T.b_isinstance (by decide +kernel) (pa_cons (pv 0) (pa_cons (pe_tupN (pa_cons (pe_bltn (v := .ty "list") rfl T.b_list (by decide +kernel) rfl) (pa_cons (pe_bltn (v := .ty "tuple") rfl T.b_tuple (by decide +kernel) rfl) pa_nil))) pa_nil))))), ?_⟩
    walk_at "rd"
    refine NewO.mk fun tp H1 np kp ht => ?_
    have q1 := q H1 kp
    rcases hp with hp | hp
    · exact ⟨_, tp, _, _, _, true, rfl, ht, .cons (ClsV.ty _) (.cons (ClsV.ty _) .nil), TyX.base (TyOf.lst (kp _ _ hp (by simp))), kit2 (t := "list") (a := "list") (b := "tuple") (r1 := true) (r2 := false) (by decide +kernel) (by decide +kernel), q1⟩
    · exact ⟨_, tp, _, _, _, true, rfl, ht, .cons (ClsV.ty _) (.cons (ClsV.ty _) .nil), TyX.base (TyOf.tup (kp _ _ hp (by simp))), kit2 (t := "tuple") (a := "list") (b := "tuple") (r1 := false) (r2 := true) (by decide +kernel) (by decide +kernel), q1⟩
theorem ok_take (T : Txt w K mg A) : FnOk P w K mg base CX0 1 A.f_take A.d_take ["_law_bag_here", "_law_count"] spTake := by
  refine T.F_take.ok sc_take (fun vs H Q E h => ?_) (fun cdv A_ outer s H vs Q E hr h => ?_)
  · obtain ⟨b, k, n, x, y, z, rfl, _⟩ := h
    rfl
  · obtain ⟨b, k, n, x, y, z, rfl, hb, ok, hn, k0, k1, q⟩ := h
    have W := Ow.start1 hb
    have y0 := ok.y0; have y1 := ok.y1; have z0 := ok.z0; have z1 := ok.z1
    refine ⟨_, (pss_cons (ps_if (pt_cmpR op_gt (pe_ix ix_list (pv 0) pe_int (fun _ _ => rfl)) pe_int (nomark _)) (pss_cons (ps_set (i := 2) sc_take.nd rfl (.inl rfl) (pe_op op_mod (pe_ix ix_list (pv 0) pe_int (fun _ _ => rfl)) (pv 1)))
  (pss_cons (ps_asg (pe_op op_fdiv (pe_ix ix_list (pv 0) pe_int (fun _ _ => rfl)) (pv 1)) (pg_sub (pv 0) pe_int set_listN))
  (pss_one (ps_ret (pv 2))))) pss_nil)
  (pss_cons (ps_asg (pe_op op_add (pe_ix ix_list (pv 0) pe_int (fun _ _ => rfl)) pe_int) (pg_sub (pv 0) pe_int set_listN))
  (pss_cons (ps_set (i := 3) sc_take.nd rfl (.inl rfl) (pe_op op_mod (pe_op op_pow (pe_op op_add (pe_op op_add (pe_ix ix_list (pv 0) pe_int (fun _ _ => rfl)) (pe_op op_mul pe_int (pe_ix ix_list (pv 0) pe_int (fun _ _ => rfl)))) pe_int) pe_int) pe_int))
  (pss_cons (ps_set (i := 3) sc_take.nd rfl (.inl rfl) (pe_op op_mod (pe_op op_pow (pe_op op_add (pv 3) (pe_op op_mul pe_int (pe_ix ix_list (pv 0) pe_int (fun _ _ => rfl)))) pe_int) pe_int))
  (pss_one (ps_ret (pe_op op_mod (pe_op op_fdiv (pv 3) pe_int) (pv 1)))))))), ?_⟩
    walk_at "rd"
    refine ite2 (fun c => ?_) (fun c => ?_)
    · have c' : 0 < x := of_decide_eq_true c
      walk_at "rd"
      rename_i H1 kp hp W1
      exact q _ (x / k) y z H1 (Int.emod_nonneg _ (by omega)) (Int.emod_lt_of_pos _ k0) ⟨Int.ediv_nonneg ok.x0 (by omega), y0, y1, z0, by omega⟩ kp hp
    · walk_at "rd"
      rename_i H1 kp hp W1
      exact q _ x y (z + 1) H1 (Int.emod_nonneg _ (by omega)) (Int.emod_lt_of_pos _ k0) ⟨ok.x0, y0, y1, by omega, by omega⟩ kp hp
def spCell (K : PySem.W.Frag) : Sp := fun vs H Q _ => ∃ (a : Addr) (ns : List Int) (k : Int), vs = [.ref a, .int k] ∧ SqL K H a (ns.map V.int) ∧ 0 ≤ k ∧ k < 1000 ∧ ∀ n, Q (.int n) H
theorem ok_cell (T : Txt w K mg A) : FnOk P w K mg base CX0 1 A.f_cell A.d_cell ["_law_script", "_law_k"] (spCell K) := by
  refine T.F_cell.ok sc_cell (fun vs H Q E h => ?_) (fun cdv A_ outer s H vs Q E hr h => ?_)
  · obtain ⟨a, ns, k, rfl, _⟩ := h
    rfl
  · obtain ⟨a, ns, k, rfl, hS, h0, hk, q⟩ := h
    obtain ⟨j, rfl⟩ := Int.eq_ofNat_of_zero_le h0
    refine ⟨_, (pss_cons (ps_if (pt_cmpR op_lt (pv 1) (pe_callB call_len_seq (by rfl) T.b_len PySem.boot_len (pa_cons (pv 0) pa_nil)) (nomark _)) (pss_one (ps_ret (pe_ix ix_list (pv 0) (pv 1) (fun _ _ => rfl)))) pss_nil)
  (pss_one (ps_ret (pe_op op_add (pe_op op_mul pe_int (pv 1)) pe_int)))), ?_⟩
    walk_at "rd"
    refine ifD (fun c => ?_) (fun c => ?_)
    · have c2 : j < ns.length := by rw [List.length_map] at c; omega
      refine ⟨_, rfl, _, rfl, _, _, _, .int ns[j], rfl, rfl, hS, atI_nat (by rw [List.getElem?_map, List.getElem?_eq_getElem c2]; rfl), q _⟩
    · walk_at "rd"
      exact q _
def spBag : Sp := fun vs H Q _ => ∃ n : Int, vs = [.int n] ∧ ∀ x y z, BagOk 0 x y z → NewO (bagO x y z) Q H
theorem ok_bag (T : Txt w K mg A) : FnOk P w K mg base CX0 1 A.f_bag A.d_bag ["_law_number"] spBag := by
  refine T.F_bag.ok sc_bag (fun vs H Q E h => ?_) (fun cdv A_ outer s H vs Q E hr h => ?_)
  · obtain ⟨n, rfl, _⟩ := h
    rfl
  · obtain ⟨n, rfl, q⟩ := h
    have W : Ow H [] H [] := Ow.start0
    refine ⟨_, (pss_one (ps_ret (pe_lstS (pa_cons (pe_callB (call_max2 rfl) (by rfl) T.b_max (by decide +kernel) (pa_cons pe_int (pa_cons (pe_op op_sub (pv 0) (pe_op op_pow pe_int pe_int)) pa_nil))) (pa_cons (pe_op op_mod (pv 0) pe_int) (pa_cons pe_int pa_nil)))))), ?_⟩
    have q' := q (if n - 10 ^ 18 > 0 then n - 10 ^ 18 else 0) (n % 2147483629) 0 ⟨by split <;> omega, Int.emod_nonneg _ (by decide), Int.lt_trans (Int.emod_lt_of_pos _ (by decide)) (by decide), by omega, by omega⟩
    walk_at "rd"
    rename_i p H1 np sp kp hp W1
    exact q'.to p H1 np kp hp
end
end K26
namespace K26
open PySem PySem.Spec PyProof.Rows L2 FR TL
open C8 (pss_cut pe_gc)
theorem upd_again {H : Hp} {a : Addr} {o o' : HO} : upd (upd H a o) a o' = upd H a o' := by
  funext b
  by_cases c : b = a
  · subst c; rw [upd_same, upd_same]
  · rw [upd_ne c, upd_ne c, upd_ne c]
section
variable {P : Program} {w : World} {K : PySem.W.Frag} {mg : Str → Option Value} {base : Heap} {A : Ads}
set_option pp.maxSteps 120
theorem ok__are_users (T : Txt w K mg A) : FnOk P w K mg base CX0 3 A.f__are_users A.d__are_users ["value"] (fun vs H Q _ => ∃ a kvs ks, vs = [.ref a] ∧ H a = some (.dK kvs) ∧ kvs.map (·.1) = ks.map Sum.inr ∧ Uss ks ∧ 1 ≤ ks.length ∧ ks.length ≤ 6 ∧ ∀ H', Keep [] H H' → Q (.bl true) H') := by
  refine T.F__are_users.ok sc__are_users (fun vs H Q E h => ?_) (fun cdv A_ outer s_ H vs Q E hr h => ?_)
  · obtain ⟨a, kvs, ks, rfl, _⟩ := h
    rfl
  · obtain ⟨a, kvs, ks, rfl, ha, hk, us, l1, l2, q⟩ := h
    refine ⟨_, (pss_cons (ps_if (PW.pt (pw_or (pt_not (pt_val (pe_callB call_isi (by rfl) T.b_isinstance (by decide +kernel) (pa_cons (pv 0) (pa_cons (pe_bltn (v := .ty "dict") rfl T.b_dict (by decide +kernel) rfl) pa_nil))))) (pw_or1 (pt_not (pt_chain op_le op_le pe_int (pe_callB call_lenD (by rfl) T.b_len PySem.boot_len (pa_cons (pv 0) pa_nil)) (pe_gc rfl T.c_MOST_USERS)))))) (pss_one (ps_ret pe_bl)) pss_nil)
  (pss_one (ps_ret (pe_callB (cr_all rfl) (by rfl) T.b_all (by decide +kernel) (pa_cons (pe_lock (pe_lc (own := [("name", 1)]) (g := gName 1) rfl sc__are_users.nd (pi_keys (pv 0)) (blkOk_by (own := [("name", 1)]) (N := N__are_users) (sc := defScope s__are_users) (by decide +kernel)) (fun _ _ _ _ _ => pg_name (i := 1) sc__are_users.nd rfl (Or.inl rfl)) (fun _ _ _ _ _ => pts_nil) (fun _ _ _ _ _ => (pe_call (ok_is_user_name T) (hr.mono (by decide)) (by rfl) T.g_is_user_name T.F_is_user_name.kp T.B_is_user_name .nil pass0 (pa_cons (pv 1) pa_nil))))) pa_nil))))), ?_⟩
    have hl : kvs.length = ks.length := by simpa using congrArg List.length hk
    walk_at "rd"
    refine ⟨a, kvs, rfl, ha, ?_⟩
    refine ⟨_, _, rfl, rfl, _, rfl, ifT (decide_eq_true (by omega)) ?_⟩
    refine ⟨_, _, rfl, rfl, _, rfl, ?_⟩
    refine ifF (by rw [decide_eq_true (show (kvs.length : Int) ≤ 6 by omega)]; rfl) ?_
    walk_at "rd"
    refine ⟨a, _, ha, trivial, fun od => ?_⟩
    refine ⟨_, rfl, a, od, rfl, .inl ⟨kvs, upd_same, fun D hD => ?_⟩⟩
    have nD : D ≠ a := fun e => by rw [e, upd_same] at hD; cases hD
    refine lc_it walk_keys (fun i H1 => H1 = upd (upd H a (.frz od (.dK kvs))) D (.lst (List.replicate i (.bl true)))) rfl (fun i H1 _ e => ?_) (fun i x H1 H2 hi e y => ?_) (fun H1 e => ?_)
    · subst e
      rw [upd_ne (Ne.symm nD), upd_same]
    · subst e
      obtain ⟨rfl, k, v, hkv, rfl⟩ := y
      obtain ⟨s, hs, rfl⟩ : ∃ s, s ∈ ks ∧ k = Sum.inr s := by
        have : k ∈ ks.map Sum.inr := by rw [← hk]; exact List.mem_map.mpr ⟨(k, v), List.mem_of_getElem? hkv, rfl⟩
        obtain ⟨s, h1, h2⟩ := List.mem_map.mp this
        exact ⟨s, h1, h2.symm⟩
      walk_at "rd"
      have li : i < 7 := by omega
      refine ⟨us s hs, _, upd_same, size_le (by simp only [List.length_replicate]; omega), ?_⟩
      rw [upd_again, List.replicate_succ']
    · subst e
      refine ⟨by rw [upd_ne (Ne.symm nD), upd_same], ?_⟩
      refine ⟨D, List.replicate kvs.length true, rfl, .inl (Rd.of ?_), ?_⟩
      · rw [upd_ne nD, upd_same, List.map_replicate]
      · rw [show (List.replicate kvs.length true).all id = true by simp]
        refine q _ (keep_lock ha (keep_new ?_))
        exact hD
theorem ok__are_groups (T : Txt w K mg A) : FnOk P w K mg base CX0 3 A.f__are_groups A.d__are_groups ["value"] (fun vs H Q _ => ∃ x xs, vs = [x] ∧ Sq H x xs ∧ Uss xs ∧ xs.Nodup ∧ 1 ≤ xs.length ∧ xs.length ≤ 6 ∧ ∀ H', Keep [] H H' → Q (.bl true) H') := by
  refine T.F__are_groups.ok sc__are_groups (fun vs H Q E h => ?_) (fun cdv A_ outer s_ H vs Q E hr h => ?_)
  · obtain ⟨x, xs, rfl, _⟩ := h
    rfl
  · obtain ⟨x, xs, rfl, hx, us, nd, l1, l2, q⟩ := h
    refine ⟨_, (pss_cons (ps_if (PW.pt (pw_or (pt_not (pt_val (pe_call (ok_is_list T) (hr.mono (by decide)) (by rfl) T.g_is_list T.F_is_list.kp T.B_is_list .nil pass0 (pa_cons (pv 0) pa_nil)))) (pw_or1 (pt_not (pt_chain op_le op_le pe_int (pe_callB call_len_seq (by rfl) T.b_len PySem.boot_len (pa_cons (pv 0) pa_nil)) (pe_gc rfl T.c_MOST_GROUPS)))))) (pss_one (ps_ret pe_bl)) pss_nil)
  (pss_one (ps_ret (pe_and (pe_callB (cr_all rfl) (by rfl) T.b_all (by decide +kernel) (pa_cons (pe_lc (own := [("name", 1)]) (g := gName 1) rfl sc__are_groups.nd (pi_seq (pv 0)) (blkOk_by (own := [("name", 1)]) (N := N__are_groups) (sc := defScope s__are_groups) (by decide +kernel)) (fun _ _ _ _ _ => pg_name (i := 1) sc__are_groups.nd rfl (Or.inl rfl)) (fun _ _ _ _ _ => pts_nil) (fun _ _ _ _ _ => (pe_call (ok_is_user_name T) (hr.mono (by decide)) (by rfl) T.g_is_user_name T.F_is_user_name.kp T.B_is_user_name .nil pass0 (pa_cons (pv 1) pa_nil)))) pa_nil)) (pe_one (pe_cmpR op_eq (pe_callB call_len_seq (by rfl) T.b_len PySem.boot_len (pa_cons (pv 0) pa_nil)) (pe_lenSetS (by rfl) T.b_len (by rfl) T.b_set (pv 0)) (nomark _))))))), ?_⟩
    obtain ⟨p, rfl, hp⟩ := id hx
    refine ⟨_, rfl, ?_⟩
    refine ⟨_, xs, rfl, hx, fun H1 k1 => ?_⟩
    have hx1 := hx.keep k1
    have hsq : SqL K H1 p (xs.map V.str) ∨ SqT K H1 p (xs.map V.str) := by
      obtain ⟨p', e, h⟩ := hx1.tx (K := K)
      cases e
      exact h
    refine ⟨_, rfl, ?_⟩
    refine ifF rfl ?_
    refine ⟨_, rfl, p, _, rfl, hsq, ?_⟩
    rw [List.length_map]
    refine ⟨_, _, rfl, rfl, _, rfl, ifT (decide_eq_true (by omega)) ?_⟩
    refine ⟨_, _, rfl, rfl, _, rfl, ?_⟩
    refine ifF (by rw [decide_eq_true (show (xs.length : Int) ≤ 6 by omega)]; rfl) ?_
    walk_at "rd"
    have fin : ∀ H2, Keep [] H1 H2 → Q (.bl true) H2 := fun H2 k2 => q H2 (k1.trans k2)
    have one : (once [] xs).length = xs.length := by rw [once_free xs [] nd (fun _ _ h => absurd h List.not_mem_nil)]; simp
    have txs : ∀ H2, Keep [] H1 H2 → TxSq K H2 (.ref p) xs := fun H2 k2 => (hx1.keep k2).tx
    have sqs : ∀ H2, Keep [] H1 H2 → SqL K H2 p (xs.map V.str) ∨ SqT K H2 p (xs.map V.str) := fun H2 k2 => by
      obtain ⟨p', e, h⟩ := txs H2 k2
      cases e
      exact h
    rcases hp with hp | hp
    · refine .inl ⟨_, .inl (Rd.of (k1 _ _ hp (by simp))), fun D hD => ?_⟩
      refine lc_it (walk_list (xs := xs.map V.str)) (fun i H2 => H2 = upd H1 D (.lst (List.replicate i (.bl true)))) rfl (fun i H2 _ e => ?_) (fun i x H2 H3 hi e y => ?_) (fun H2 e => ?_)
      · subst e
        exact .inl (Rd.of ((keep_new hD) _ _ (k1 _ _ hp (by simp)) (by simp)))
      · subst e
        obtain ⟨rfl, hx⟩ := y
        obtain ⟨s, hs, rfl⟩ : ∃ s, s ∈ xs ∧ x = V.str s := by
          obtain ⟨s, h1, h2⟩ := List.mem_map.mp (List.mem_of_getElem? hx)
          exact ⟨s, h1, h2.symm⟩
        walk_at "rd"
        have li : i < 7 := by rw [List.length_map] at hi; omega
        refine ⟨us s hs, _, upd_same, size_le (by simp only [List.length_replicate]; omega), ?_⟩
        rw [upd_again, List.replicate_succ']
      · subst e
        rw [List.length_map]
        refine ⟨D, List.replicate xs.length true, rfl, .inl (Rd.of ?_), ?_⟩
        · rw [upd_same, List.map_replicate]
        rw [show (List.replicate xs.length true).all id = true by simp]
        have k2 : Keep [] H1 (upd H1 D (.lst (List.replicate xs.length (.bl true)))) := keep_new hD
        refine ⟨true, rfl, ifT rfl ?_⟩
        refine ⟨_, rfl, p, _, rfl, sqs _ k2, ?_⟩
        refine ⟨_, rfl, xs, txs _ k2, by omega, ?_⟩
        walk_at "rd"
        show Q (.bl (decide (V.int ((xs.map V.str).length : Nat) = V.int ((once [] xs).length : Nat)))) _
        rw [List.length_map, one, decide_eq_true rfl]
        exact fin _ k2
    · refine .inr ⟨_, .inl (Rd.of (k1 _ _ hp (by simp))), fun D hD => ?_⟩
      refine lc_it (walk_tup (xs := xs.map V.str)) (fun i H2 => H2 = upd H1 D (.lst (List.replicate i (.bl true)))) rfl (fun i H2 _ e => ?_) (fun i x H2 H3 hi e y => ?_) (fun H2 e => ?_)
      · subst e
        exact .inl (Rd.of ((keep_new hD) _ _ (k1 _ _ hp (by simp)) (by simp)))
      · subst e
        obtain ⟨rfl, hx⟩ := y
        obtain ⟨s, hs, rfl⟩ : ∃ s, s ∈ xs ∧ x = V.str s := by
          obtain ⟨s, h1, h2⟩ := List.mem_map.mp (List.mem_of_getElem? hx)
          exact ⟨s, h1, h2.symm⟩
        walk_at "rd"
        have li : i < 7 := by rw [List.length_map] at hi; omega
        refine ⟨us s hs, _, upd_same, size_le (by simp only [List.length_replicate]; omega), ?_⟩
        rw [upd_again, List.replicate_succ']
      · subst e
        rw [List.length_map]
        refine ⟨D, List.replicate xs.length true, rfl, .inl (Rd.of ?_), ?_⟩
        · rw [upd_same, List.map_replicate]
        rw [show (List.replicate xs.length true).all id = true by simp]
        have k2 : Keep [] H1 (upd H1 D (.lst (List.replicate xs.length (.bl true)))) := keep_new hD
        refine ⟨true, rfl, ifT rfl ?_⟩
        refine ⟨_, rfl, p, _, rfl, sqs _ k2, ?_⟩
        refine ⟨_, rfl, xs, txs _ k2, by omega, ?_⟩
        walk_at "rd"
        show Q (.bl (decide (V.int ((xs.map V.str).length : Nat) = V.int ((once [] xs).length : Nat)))) _
        rw [List.length_map, one, decide_eq_true rfl]
        exact fin _ k2
end
end K26
namespace K26
open PySem PySem.Spec PyProof.Rows L2 FR TL
/-! people as a list of users with their groups -/
abbrev Mp := List (Str × List Str)
def mget (m : Mp) (u : Str) : List Str := ((m.find? fun e => decide (e.1 = u)).map (·.2)).getD []
structure Mk (m : Mp) : Prop where
  nd : (m.map (·.1)).Nodup
  us : ∀ e ∈ m, Us e.1
  gs : ∀ e ∈ m, Uss e.2 ∧ e.2.Nodup ∧ 1 ≤ e.2.length ∧ e.2.length ≤ 6
  l1 : 1 ≤ m.length
  l6 : m.length ≤ 6
  few : ∃ G : List Str, G.length ≤ 6 ∧ ∀ e ∈ m, ∀ g ∈ e.2, g ∈ G
theorem mget_mem : ∀ {m : Mp} {e : Str × List Str}, (m.map (·.1)).Nodup → e ∈ m → mget m e.1 = e.2
  | [], _, _, h => absurd h List.not_mem_nil
  | x :: r, e, nd, h => by
    rw [List.map_cons, List.nodup_cons] at nd
    unfold mget
    by_cases c : x.1 = e.1
    · rw [List.find?_cons_of_pos (by simpa using c)]
      rcases List.mem_cons.mp h with rfl | h
      · rfl
      · exact absurd (List.mem_map.mpr ⟨e, h, c.symm⟩) nd.1
    · rw [List.find?_cons_of_neg (by simpa using c)]
      rcases List.mem_cons.mp h with rfl | h
      · exact absurd rfl c
      · exact mget_mem nd.2 h
theorem mget_map {m : Mp} (nd : (m.map (·.1)).Nodup) : (m.map (·.1)).map (fun u => (u, mget m u)) = m := by
  rw [List.map_map]
  conv => rhs; rw [← List.map_id m]
  refine List.map_congr_left fun e he => ?_
  show (e.1, mget m e.1) = e
  rw [mget_mem nd he]
theorem srt_perm' {xs zs : List Str} (q : xs.Perm zs) : srt xs = srt zs := by
  by_cases h : ∃ ys : List Str, ys.Perm xs ∧ sortedS ys = true
  · obtain ⟨ys, p, s⟩ := h
    exact srt_perm p s q
  · unfold srt
    rw [dif_neg h, dif_neg fun ⟨ys, p, s⟩ => h ⟨ys, p.trans q.symm, s⟩]
noncomputable def sm (m : Mp) : Mp := (srt (m.map (·.1))).map fun u => (u, mget m u)
def flatM (m : Mp) : List Str := (m.map (·.2)).flatten
noncomputable def gsOf (m : Mp) : List Str := srt (once [] (flatM m))
theorem sm_eq {m : Mp} {ys : List Str} (p : ys.Perm (m.map (·.1))) (h : sortedS ys = true) : sm m = ys.map fun u => (u, mget m u) := by
  unfold sm
  rw [← srt_eq p h]
theorem sm_perm {m : Mp} (nd : (m.map (·.1)).Nodup) {ys : List Str} (p : ys.Perm (m.map (·.1))) (h : sortedS ys = true) : (sm m).Perm m := by
  rw [sm_eq p h]
  have := p.map fun u => (u, mget m u)
  rwa [mget_map nd] at this
theorem sm_keys {m : Mp} {ys : List Str} (p : ys.Perm (m.map (·.1))) (h : sortedS ys = true) : (sm m).map (·.1) = ys := by
  rw [sm_eq p h, List.map_map]
  exact List.map_id _
theorem Mk.perm {m n : Mp} (h : Mk m) (p : n.Perm m) : Mk n where
  nd := (p.map _).nodup_iff.mpr h.nd
  us := fun e he => h.us e (p.mem_iff.mp he)
  gs := fun e he => h.gs e (p.mem_iff.mp he)
  l1 := by rw [p.length_eq]; exact h.l1
  l6 := by rw [p.length_eq]; exact h.l6
  few := by
    obtain ⟨G, g1, g2⟩ := h.few
    exact ⟨G, g1, fun e he => g2 e (p.mem_iff.mp he)⟩
theorem mem_flatM {m : Mp} {g : Str} : g ∈ flatM m ↔ ∃ e ∈ m, g ∈ e.2 := by
  unfold flatM
  rw [List.mem_flatten]
  constructor
  · rintro ⟨l, hl, hg⟩
    obtain ⟨e, he, rfl⟩ := List.mem_map.mp hl
    exact ⟨e, he, hg⟩
  · rintro ⟨e, he, hg⟩
    exact ⟨e.2, List.mem_map_of_mem he, hg⟩
theorem once_perm {a b : List Str} (h : ∀ x, x ∈ a ↔ x ∈ b) : (once [] a).Perm (once [] b) := by
  refine (List.perm_ext_iff_of_nodup (once_nodup a [] .nil) (once_nodup b [] .nil)).mpr fun x => ?_
  rw [once_mem, once_mem, h x]
theorem gs_perm {m n : Mp} (p : n.Perm m) : gsOf n = gsOf m := srt_perm' (once_perm fun x => by
  rw [mem_flatM, mem_flatM]
  exact ⟨fun ⟨e, he, hx⟩ => ⟨e, p.mem_iff.mp he, hx⟩, fun ⟨e, he, hx⟩ => ⟨e, p.mem_iff.mpr he, hx⟩⟩)
theorem mget_perm {m n : Mp} (nd : (m.map (·.1)).Nodup) (p : n.Perm m) (u : Str) : mget n u = mget m u := by
  by_cases h : u ∈ m.map (·.1)
  · obtain ⟨e, he, rfl⟩ := List.mem_map.mp h
    rw [mget_mem nd he, mget_mem ((p.map _).nodup_iff.mpr nd) (p.mem_iff.mpr he)]
  · have no : ∀ {k : Mp}, u ∉ k.map (·.1) → mget k u = [] := fun {k} hk => by
      unfold mget
      rw [List.find?_eq_none.mpr fun e he c => hk (List.mem_map.mpr ⟨e, he, of_decide_eq_true c⟩)]
      rfl
    rw [no h, no fun hn => h ((p.map _).mem_iff.mp hn)]
theorem sm_perm2 {m n : Mp} (nd : (m.map (·.1)).Nodup) (p : n.Perm m) : sm n = sm m := by
  unfold sm
  rw [srt_perm' (p.map _)]
  exact List.map_congr_left fun u _ => by rw [mget_perm nd p]
theorem once_few {m : Mp} (h : Mk m) : (once [] (flatM m)).length ≤ 6 := by
  obtain ⟨G, g1, g2⟩ := h.few
  have nd := once_nodup (flatM m) [] .nil
  have sub : ∀ x ∈ once [] (flatM m), x ∈ G := fun x hx => by
    rw [once_mem, mem_flatM] at hx
    obtain hx | ⟨e, he, hx⟩ := hx
    · exact absurd hx List.not_mem_nil
    · exact g2 e he x hx
  exact Nat.le_trans (nd.length_le_of_subset sub) g1
theorem flat_len {m : Mp} (h : Mk m) : (flatM m).length ≤ 36 := by
  unfold flatM
  rw [List.length_flatten]
  have : ((m.map (·.2)).map List.length).sum ≤ ((m.map (·.2)).map List.length).length * 6 := by
    have all : ∀ l ∈ (m.map (·.2)).map List.length, l ≤ 6 := fun l hl => by
      obtain ⟨x, hx, rfl⟩ := List.mem_map.mp hl
      obtain ⟨e, he, rfl⟩ := List.mem_map.mp hx
      exact (h.gs e he).2.2.2
    generalize (m.map (·.2)).map List.length = L at all
    induction L with
    | nil => simp
    | cons a r ih =>
      rw [List.sum_cons, List.length_cons, Nat.add_one_mul]
      have h1 := all a List.mem_cons_self
      have h2 := ih fun l hl => all l (List.mem_cons_of_mem _ hl)
      omega
  have l6 := h.l6
  simp only [List.length_map] at this
  omega
/-! how it stands in the heap -/
def RL (H : Hp) (x : V) (xs : List Str) : Prop := ∃ p, x = .ref p ∧ H p = some (.lst (xs.map V.str))
def RT (H : Hp) (x : V) (xs : List Str) : Prop := ∃ p, x = .ref p ∧ H p = some (.tup (xs.map V.str))
theorem RL.keep {H H' : Hp} {x : V} {xs : List Str} (h : RL H x xs) (k : Keep [] H H') : RL H' x xs := by
  obtain ⟨p, rfl, h⟩ := h
  exact ⟨p, rfl, k _ _ h (by simp)⟩
theorem RT.keep {H H' : Hp} {x : V} {xs : List Str} (h : RT H x xs) (k : Keep [] H H') : RT H' x xs := by
  obtain ⟨p, rfl, h⟩ := h
  exact ⟨p, rfl, k _ _ h (by simp)⟩
theorem RL.sq {H : Hp} {x : V} {xs : List Str} (h : RL H x xs) : Sq H x xs := h.imp fun _ ⟨e, h⟩ => ⟨e, .inl h⟩
theorem RT.sq {H : Hp} {x : V} {xs : List Str} (h : RT H x xs) : Sq H x xs := h.imp fun _ ⟨e, h⟩ => ⟨e, .inr h⟩
def DM (R : V → List Str → Prop) : List (L2.Key × V) → Mp → Prop := Paired fun kv e => kv.1 = Sum.inr e.1 ∧ R kv.2 e.2
theorem DM.imp {R S : V → List Str → Prop} {kvs : List (L2.Key × V)} {m : Mp} (h : DM R kvs m) (f : ∀ x xs, R x xs → S x xs) : DM S kvs m := Paired.mapP h fun _ _ ⟨e, r⟩ => ⟨e, f _ _ r⟩
theorem DM.len {R : V → List Str → Prop} {kvs : List (L2.Key × V)} {m : Mp} (h : DM R kvs m) : kvs.length = m.length := Paired.length h
theorem DM.keys {R : V → List Str → Prop} {kvs : List (L2.Key × V)} {m : Mp} (h : DM R kvs m) : kvs.map (·.1) = (m.map (·.1)).map Sum.inr := by
  unfold DM at h
  induction h with
  | nil => rfl
  | cons h t ih => rw [List.map_cons, List.map_cons, List.map_cons, ih, h.1]
theorem DM.val {R : V → List Str → Prop} {kvs : List (L2.Key × V)} {m : Mp} (h : DM R kvs m) {u : Str} (hu : u ∈ m.map (·.1)) : ∃ v, valV kvs (Sum.inr u) = some v ∧ R v (mget m u) := by
  unfold DM at h
  induction h with
  | nil => exact absurd hu List.not_mem_nil
  | @cons kv e a b h t ih =>
    by_cases c : e.1 = u
    · refine ⟨kv.2, valV_pos (by rw [h.1, c]), ?_⟩
      unfold mget
      rw [List.find?_cons_of_pos (by simpa using c)]
      exact h.2
    · rw [List.map_cons] at hu
      obtain ⟨v, h1, h2⟩ := ih ((List.mem_cons.mp hu).resolve_left fun z => c z.symm)
      refine ⟨v, by rw [valV_neg (by rw [h.1]; exact fun z => c (Sum.inr.inj z))]; exact h1, ?_⟩
      unfold mget
      rw [List.find?_cons_of_neg (by simpa using c)]
      exact h2
theorem DM.no {R : V → List Str → Prop} {kvs : List (L2.Key × V)} {m : Mp} (h : DM R kvs m) {u : Str} (hu : u ∉ m.map (·.1)) : valV kvs (Sum.inr u) = none := by
  unfold DM at h
  induction h with
  | nil => rfl
  | @cons kv e a b h t ih =>
    rw [List.map_cons, List.mem_cons, not_or] at hu
    rw [valV_neg (by rw [h.1]; exact fun z => hu.1 (Sum.inr.inj z).symm)]
    exact ih hu.2
theorem DM.get {R : V → List Str → Prop} {kvs : List (L2.Key × V)} {m : Mp} (h : DM R kvs m) {i : Nat} {k : L2.Key} {v : V} (hi : kvs[i]? = some (k, v)) : ∃ e, m[i]? = some e ∧ k = Sum.inr e.1 ∧ R v e.2 := by
  unfold DM at h
  induction h generalizing i with
  | nil => simp at hi
  | @cons kv e a b h t ih =>
    cases i with
    | zero =>
      obtain rfl : kv = (k, v) := by simpa using hi
      exact ⟨e, rfl, h⟩
    | succ i => exact ih (by simpa using hi)
theorem DM.snoc {R : V → List Str → Prop} {kvs : List (L2.Key × V)} {m : Mp} (h : DM R kvs m) {u : Str} {v : V} {xs : List Str} (r : R v xs) (hu : u ∉ m.map (·.1)) : putK kvs (Sum.inr u) v = kvs ++ [(Sum.inr u, v)] ∧ DM R (kvs ++ [(Sum.inr u, v)]) (m ++ [(u, xs)]) := by
  refine ⟨?_, ?_⟩
  · unfold putK
    rw [valV_any, h.no hu]
    rfl
  · clear hu
    unfold DM at h ⊢
    induction h with
    | nil => exact .cons ⟨rfl, r⟩ .nil
    | cons h t ih => exact .cons h ih
structure Ppl (C : Addr) (H : Hp) (p : Addr) (M : Mp) (gs : List Str) (d g dx : Addr) (kvs : List (L2.Key × V)) : Prop where
  ob : H p = some (.ins C dx [("_held", .ref d), ("_groups", .ref g)])
  hd : H d = some (.dK kvs)
  dm : DM (RT H) kvs M
  hg : H g = some (.lst (gs.map V.str))
  gd : Mk M
  gm : ∀ x, x ∈ gs ↔ ∃ e ∈ M, x ∈ e.2
  gl : gs.length ≤ 6
def Pp (C : Addr) (H : Hp) (p : Addr) (M : Mp) (gs : List Str) : Prop := ∃ d g dx kvs, Ppl C H p M gs d g dx kvs
theorem Ppl.keep {C : Addr} {H H' : Hp} {p : Addr} {M : Mp} {gs : List Str} {d g dx : Addr} {kvs : List (L2.Key × V)} (h : Ppl C H p M gs d g dx kvs) (k : Keep [] H H') : Ppl C H' p M gs d g dx kvs :=
  ⟨k _ _ h.ob (by simp), k _ _ h.hd (by simp), h.dm.imp fun _ _ r => r.keep k, k _ _ h.hg (by simp), h.gd, h.gm, h.gl⟩
theorem Pp.keep {C : Addr} {H H' : Hp} {p : Addr} {M : Mp} {gs : List Str} (h : Pp C H p M gs) (k : Keep [] H H') : Pp C H' p M gs := by
  obtain ⟨d, g, dx, kvs, h⟩ := h
  exact ⟨d, g, dx, kvs, h.keep k⟩
section
variable {P : Program} {w : World} {K : PySem.W.Frag} {mg : Str → Option Value} {base : Heap} {A : Ads}
set_option pp.maxSteps 120
theorem ok_People_groups (T : Txt w K mg A) : FnOk P w K mg base CX0 1 A.f_People_groups A.d_People_groups ["self"] (fun vs H Q _ => ∃ p M gs, vs = [.ref p] ∧ Pp A.C_People H p M gs ∧ NewO (.lst (gs.map V.str)) Q H) := by
  refine T.F_People_groups.ok sc_People_groups (fun vs H Q E h => ?_) (fun cdv A_ outer s_ H vs Q E hr h => ?_)
  · obtain ⟨p, M, gs, rfl, _⟩ := h
    rfl
  · obtain ⟨p, M, gs, rfl, ⟨d, g, dx, kvs, h⟩, q⟩ := h
    refine ⟨_, (pss_one (ps_ret (pe_callTy call_lofN (by rfl) T.b_list (by decide +kernel) (pa_cons (pe_fld (pv 0) rfl) pa_nil)))), ?_⟩
    refine ⟨_, rfl, p, _, dx, _, _, rfl, h.ob, T.cl_People, T.na_People__groups, rfl, ?_⟩
    exact ⟨g, _, rfl, .inl (.inl (Rd.of h.hg)), q⟩
/-- what stands on the left of `in`: a text, or anything that is none -/
def spHas (C : Addr) (K : PySem.W.Frag) : Sp := fun vs H Q _ => ∃ p M gs v, vs = [.ref p, v] ∧ Pp C H p M gs ∧ ((∃ s, v = .str s ∧ Q (.bl (decide (s ∈ M.map (·.1)))) H) ∨ ∃ t, TyX K H v (.type t) ∧ kitB t "str" = some false ∧ Q (.bl false) H)
theorem ok_People___contains__ (T : Txt w K mg A) : FnOk P w K mg base CX0 1 A.f_People___contains__ A.d_People___contains__ ["self", "value"] (spHas A.C_People K) := by
  refine T.F_People___contains__.ok sc_People___contains__ (fun vs H Q E h => ?_) (fun cdv A_ outer s_ H vs Q E hr h => ?_)
  · obtain ⟨p, M, gs, v, rfl, _⟩ := h
    rfl
  · obtain ⟨p, M, gs, v, rfl, ⟨d, g, dx, kvs, h⟩, q⟩ := h
    refine ⟨_, (pss_one (ps_ret (pe_and (pe_callB call_isi (by rfl) T.b_isinstance (by decide +kernel) (pa_cons (pv 1) (pa_cons (pe_bltn (v := .ty "str") rfl T.b_str (by decide +kernel) rfl) pa_nil))) (pe_one (pe_cmp (pc_din (hu_of hr) (pv 1) (pe_fld (pv 0) rfl))))))), ?_⟩
    rcases q with ⟨s, rfl, q⟩ | ⟨t, ty, k, q⟩
    · refine ⟨_, rfl, ?_⟩
      refine ⟨_, _, _, _, _, rfl, .ty _, TyX.base (.str s), kit_ty ki_str_str, ?_⟩
      refine ⟨true, rfl, ?_⟩
      rw [if_pos rfl]
      refine ⟨_, rfl, _, rfl, p, _, dx, _, _, rfl, h.ob, T.cl_People, T.na_People__held, rfl, ?_⟩
      refine ⟨d, _, rfl, .inl ⟨kvs, Sum.inr s, Rd.of h.hd, rfl, rfl⟩, ?_⟩
      have e : (valV kvs (Sum.inr s)).isSome = decide (s ∈ M.map (·.1)) := by
        by_cases c : s ∈ M.map (·.1)
        · obtain ⟨v, e, _⟩ := h.dm.val c
          rw [e, decide_eq_true c]; rfl
        · rw [h.dm.no c, decide_eq_false c]; rfl
      rw [e]
      exact q
    · refine ⟨_, rfl, ?_⟩
      refine ⟨_, _, _, _, _, rfl, .ty _, ty, kit_ty k, ?_⟩
      refine ⟨false, rfl, ?_⟩
      rw [if_neg Bool.false_ne_true]
      exact q
theorem ok_People_groups_of (T : Txt w K mg A) : FnOk P w K mg base CX0 2 A.f_People_groups_of A.d_People_groups_of ["self", "user"] (fun vs H Q _ => ∃ p M gs u, vs = [.ref p, .str u] ∧ Pp A.C_People H p M gs ∧ u ∈ M.map (·.1) ∧ NewO (.lst ((mget M u).map V.str)) Q H) := by
  refine T.F_People_groups_of.ok sc_People_groups_of (fun vs H Q E h => ?_) (fun cdv A_ outer s_ H vs Q E hr h => ?_)
  · obtain ⟨p, M, gs, u, rfl, _⟩ := h
    rfl
  · obtain ⟨p, M, gs, u, rfl, ⟨d, g, dx, kvs, h⟩, hu, q⟩ := h
    refine ⟨_, (pss_cons (ps_if (pt_cmpR (op_notInI T.me_People___contains__.at_ T.me_People___contains__.fn ((ok_People___contains__ T).raw T.B_People___contains__ .nil) (hr.mono (by decide)) pass0) (pv 1) (pv 0) rfl) (pss_one ps_never) pss_nil)
  (pss_one (ps_ret (pe_callTy call_lofN (by rfl) T.b_list (by decide +kernel) (pa_cons (pe_dget (hu_of hr) (pe_fld (pv 0) rfl) (pv 1) (fun _ _ => rfl)) pa_nil))))), ?_⟩
    refine ⟨_, rfl, _, rfl, p, dx, _, rfl, h.ob, ?_⟩
    refine ⟨p, M, gs, _, rfl, ⟨d, g, dx, kvs, h⟩, .inl ⟨u, rfl, ?_⟩⟩
    refine ⟨_, rfl, ?_⟩
    rw [decide_eq_true hu]
    refine ⟨_, rfl, ?_⟩
    refine ifF rfl ?_
    refine ⟨_, rfl, p, _, dx, _, _, rfl, h.ob, T.cl_People, T.na_People__held, rfl, _, rfl, ?_⟩
    obtain ⟨v, h1, q', rfl, h2⟩ := h.dm.val hu
    refine ⟨d, _, rfl, .inl ⟨kvs, Sum.inr u, Rd.of h.hd, rfl, h1.symm⟩, ?_⟩
    exact ⟨q', _, rfl, .inr (.inl (Rd.of h2)), q⟩
end
end K26
namespace K26
open PySem PySem.Spec PyProof.Rows L2 FR TL
open C8 (pss_cut pe_gc)
section
variable {P : Program} {w : World} {K : PySem.W.Frag} {mg : Str → Option Value} {base : Heap} {A : Ads}
set_option pp.maxSteps 120
theorem flat_take {M : Mp} {i : Nat} {e : Str × List Str} (h : M[i]? = some e) : flatM (M.take (i + 1)) = flatM (M.take i) ++ e.2 := by
  unfold flatM
  rw [List.take_add_one, h]
  simp
theorem once_app (l xs ys : List Str) : once l (xs ++ ys) = once (once l xs) ys := by
  unfold once
  rw [List.foldl_append]
theorem flat_take_len {M : Mp} (h : Mk M) (i : Nat) : (flatM (M.take i)).length ≤ 36 := by
  by_cases c : M.take i = []
  · rw [c]; simp [flatM]
  · refine flat_len ⟨h.nd.sublist ((List.take_sublist i M).map _), fun e he => h.us e (List.mem_of_mem_take he), fun e he => h.gs e (List.mem_of_mem_take he), List.length_pos_iff.mpr c, Nat.le_trans (List.length_take_le' i M) h.l6, ?_⟩
    obtain ⟨G, g1, g2⟩ := h.few
    exact ⟨G, g1, fun e he => g2 e (List.mem_of_mem_take he)⟩
theorem Keep.to1 {H H' : Hp} {p : Addr} (k : Keep [] H H') : Keep [p] H H' := fun b o e _ => k b o e (by simp)
theorem Sq.keep1 {H H' : Hp} {p : Addr} {o : HO} {x : V} {xs : List Str} (h : Sq H x xs) (hp : H p = some o) (no : (∀ ys, o ≠ .lst ys) ∧ ∀ ys, o ≠ .tup ys) (k : Keep [p] H H') : Sq H' x xs := by
  obtain ⟨q, rfl, h | h⟩ := h
  · exact ⟨q, rfl, .inl (k _ _ h (by simpa using ne_of h hp (fun z => no.1 _ z.symm)))⟩
  · exact ⟨q, rfl, .inr (k _ _ h (by simpa using ne_of h hp (fun z => no.2 _ z.symm)))⟩
def spInit (C : Addr) : Sp := fun vs H Q _ => ∃ p dx a kvs m, vs = [.ref p, .ref a] ∧ H p = some (.ins C dx []) ∧ H a = some (.dK kvs) ∧ DM (Sq H) kvs m ∧ Mk m ∧ ∀ H' d g dx' ks, Keep [p] H H' → (sm m).Perm m → Ppl C H' p (sm m) (gsOf m) d g dx' ks → H d = none → H g = none → Q .non H'
theorem keep_free {H H' : Hp} {D : Addr} {o : HO} (k : Keep [] H H') (h : H D = none) : Keep [] H (upd H' D o) := fun b u e hb => by
  rw [upd_ne (ne_of_none e h)]
  exact k b u e hb
theorem RT.put {H : Hp} {D : Addr} {o o' : HO} {x : V} {xs : List Str} (r : RT H x xs) (h : H D = some o) (n : ∀ ys, o ≠ .tup ys) : RT (upd H D o') x xs := by
  obtain ⟨q, rfl, hq⟩ := r
  exact ⟨q, rfl, by rw [upd_ne (ne_of hq h fun z => n _ z.symm)]; exact hq⟩
theorem take_none {α : Type} {L : List α} {i : Nat} {x : α} (nd : L.Nodup) (h : L[i]? = some x) : x ∉ L.take i := fun hx => by
  obtain ⟨j, hj, e⟩ := List.mem_iff_getElem.mp hx
  rw [List.length_take] at hj
  rw [List.getElem_take] at e
  obtain ⟨hi, e2⟩ := List.getElem?_eq_some_iff.mp h
  have := (List.getElem?_inj hi nd).mp (h.trans (List.getElem?_eq_some_iff.mpr ⟨by omega, e⟩).symm)
  omega
theorem ok_People___init__ (T : Txt w K mg A) : FnOk P w K mg base CX0 4 A.f_People___init__ A.d_People___init__ ["self", "members"] (spInit A.C_People) := by
  refine T.F_People___init__.ok sc_People___init__ (fun vs H Q E h => ?_) (fun cdv A_ outer s_ H vs Q E hr h => ?_)
  · obtain ⟨p, dx, a, kvs, m, rfl, _⟩ := h
    rfl
  · obtain ⟨p, dx, a, kvs, m, rfl, hp, ha, dm, gd, q⟩ := h
    refine ⟨_, (pss_cons (ps_if (pt_not (pt_val (pe_call (ok__are_users T) (hr.mono (by decide)) (by rfl) T.g__are_users T.F__are_users.kp T.B__are_users .nil pass0 (pa_cons (pv 1) pa_nil)))) (pss_one ps_never) pss_nil)
  (pss_cons (ps_for PassesOwn.never rfl (pi_list (pe_callB (call_sortedD rfl) (by rfl) T.b_sorted (by decide +kernel) (pa_cons (pv 1) pa_nil))) (pg_name (i := 2) sc_People___init__.nd rfl (.inl rfl)) (pss_one (ps_if (pt_not (pt_val (pe_call (ok__are_groups T) (hr.mono (by decide)) (by rfl) T.g__are_groups T.F__are_groups.kp T.B__are_groups .nil pass0 (pa_cons (pe_dget (hu_of hr) (pv 1) (pv 2) (fun _ _ => rfl)) pa_nil)))) (pss_one ps_never) pss_nil)))
  (pss_cons (ps_fld (pv 0) (pe_dc (own := [("user", 2)]) (g := gName 2) rfl sc_People___init__.nd (pi_list (pe_callB (call_sortedD rfl) (by rfl) T.b_sorted (by decide +kernel) (pa_cons (pv 1) pa_nil))) (blkOk_by (own := [("user", 2)]) (N := N_People___init__) (sc := defScope s_People___init__) (by decide +kernel)) (fun _ _ _ _ _ => pg_name (i := 2) sc_People___init__.nd rfl (Or.inl rfl)) (fun _ _ _ _ _ => pts_nil) (fun _ _ _ _ _ => (pv 2)) (fun _ _ _ _ _ => (pe_callTy (call_tuple_ofK (K := K) rfl) (by rfl) T.b_tuple (by decide +kernel) (pa_cons (pe_dget (hu_of hr) (pv 1) (pv 2) (fun _ _ => rfl)) pa_nil)))) rfl)
  (pss_cons (ps_fld (pv 0) (pe_callB (cr_sortSet rfl) (by rfl) T.b_sorted (by decide +kernel) (pa_cons (pe_lock (pe_sc2 (own := [("user", 2), ("group", 3)]) (vs1 := [3]) (g := gName 2) (g1 := gName 3) rfl sc_People___init__.nd (pi_keys (pe_fld (pv 0) rfl)) (blkOk_by (own := [("user", 2), ("group", 3)]) (N := N_People___init__) (sc := defScope s_People___init__) (by decide +kernel)) (by decide) (fun _ _ _ _ _ => pg_name (i := 2) sc_People___init__.nd rfl (Or.inl rfl)) (fun _ _ _ _ _ => (pi_tupK (K := K) rfl (pe_dget (hu_of hr) (pe_fldK (K := K) rfl (pv 0) (by rfl)) (pv 2) (fun _ _ => rfl)))) (fun _ _ _ _ _ => pg_name (i := 3) sc_People___init__.nd rfl (Or.inl rfl)) (fun _ _ _ _ _ => (pv 3)))) pa_nil)) rfl)
  (pss_one (ps_if (pt_cmpR op_gt (pe_callB call_len_seq (by rfl) T.b_len PySem.boot_len (pa_cons (pe_fld (pv 0) rfl) pa_nil)) (pe_gc rfl T.c_MOST_GROUPS) (nomark _)) (pss_one ps_never) pss_nil)))))), ?_⟩
    have ks := dm.keys
    refine ⟨_, rfl, a, kvs, m.map (·.1), rfl, ha, ks, fun s hs => ?_, by rw [List.length_map]; exact gd.l1, by rw [List.length_map]; exact gd.l6, fun H1 k1 => ?_⟩
    · obtain ⟨e, he, rfl⟩ := List.mem_map.mp hs
      exact gd.us e he
    refine ⟨_, rfl, ?_⟩
    refine ifF rfl ?_
    refine ⟨_, rfl, a, kvs, m.map (·.1), rfl, .inl (k1 _ _ ha (by simp)), ks, by rw [List.length_map]; have := gd.l6; omega, fun ys l py sy nl => ?_⟩
    refine ⟨l, rfl, ⟨_, .inl (.inl upd_same)⟩, ?_⟩
    have k2 : Keep [] H (upd H1 l (.lst (ys.map V.str))) := k1.trans (keep_new nl)
    have kl : ∀ H', Keep [] (upd H1 l (.lst (ys.map V.str))) H' → SqL K H' l (ys.map V.str) := fun H' k => .inl (.inl (k _ _ upd_same (by simp)))
    have ymem : ∀ y ∈ ys, y ∈ m.map (·.1) := fun y hy => py.mem_iff.mp hy
    refine for_li (xs := ys.map V.str) (fun pre σ H' => (∃ y2 y3, σ = [some (.ref p), some (.ref a), y2, y3]) ∧ Keep [] (upd H1 l (.lst (ys.map V.str))) H') ⟨⟨none, none, rfl⟩, Keep.refl⟩ (fun pre post σ H' _ h => kl H' h.2) ?_ ?_
    · rintro pre x post σ H' ex ⟨⟨y2, y3, rfl⟩, k3⟩
      obtain ⟨u, hu, rfl⟩ : ∃ u, u ∈ ys ∧ x = V.str u := by
        have : x ∈ ys.map V.str := by rw [ex]; simp
        obtain ⟨u, h1, h2⟩ := List.mem_map.mp this
        exact ⟨u, h1, h2.symm⟩
      obtain ⟨v, hv, hq⟩ := dm.val (ymem u hu)
      obtain ⟨e, he, eu⟩ := List.mem_map.mp (ymem u hu)
      subst eu
      rw [mget_mem gd.nd he] at hq
      have g := gd.gs e he
      have k4 := k2.trans k3
      refine ⟨_, rfl, _, rfl, a, v, rfl, .inl ⟨kvs, Sum.inr e.1, .inl (k4 _ _ ha (by simp)), rfl, hv.symm⟩, ?_⟩
      refine ⟨v, e.2, rfl, hq.keep k4, g.1, g.2.1, g.2.2.1, g.2.2.2, fun H5 k5 => ?_⟩
      refine ⟨_, rfl, ?_⟩
      refine ifF rfl ?_
      exact ⟨⟨_, _, rfl⟩, k3.trans k5⟩
    · rintro σ H2 ⟨⟨y2, y3, rfl⟩, k3⟩
      have k4 := k2.trans k3
      clear k2 k3 kl k1
      refine ⟨_, rfl, a, kvs, m.map (·.1), rfl, .inl (k4 _ _ ha (by simp)), ks, by rw [List.length_map]; have := gd.l6; omega, fun ys2 l2 py2 sy2 nl2 => ?_⟩
      have e2 : ys2 = ys := by rw [srt_eq py2 sy2, srt_eq py sy]
      subst e2
      clear py2 sy2
      have k5 : Keep [] H (upd H2 l2 (.lst (ys2.map V.str))) := k4.trans (keep_new nl2)
      have eM := sm_eq py sy
      have pM := sm_perm gd.nd py sy
      have gM := gd.perm pM
      have kM := sm_keys py sy
      have ynd : ys2.Nodup := py.nodup_iff.mpr gd.nd
      have h2l : (upd H2 l2 (.lst (ys2.map V.str))) l2 = some (.lst (ys2.map V.str)) := upd_same
      clear k4 nl2
      generalize upd H2 l2 (.lst (ys2.map V.str)) = H3 at k5 h2l ⊢
      refine ⟨l2, rfl, ⟨_, .inl (.inl h2l)⟩, fun D hD => ?_⟩
      have hD0 := hD
      have kD0 := k5
      refine dc_it (walk_list (xs := ys2.map V.str)) (fun i H' => ∃ ks', H' D = some (.dK ks') ∧ Keep [] H3 H' ∧ DM (RT H') ks' ((sm m).take i)) ⟨[], upd_same, keep_new hD, .nil⟩ (fun i H' _ h => ?_) (fun i x H' H4 hi h y => ?_) (fun H' h => ?_)
      · obtain ⟨_, _, k, _⟩ := h
        exact .inl (.inl (k _ _ h2l (by simp)))
      · obtain ⟨ks', hd', k6, dm'⟩ := h
        obtain ⟨rfl, hx⟩ := y
        rw [List.getElem?_map] at hx
        obtain ⟨u, hu, rfl⟩ := Option.map_eq_some_iff.mp hx
        have hum := ymem u (List.mem_of_getElem? hu)
        obtain ⟨v, hv, hq⟩ := dm.val hum
        have hMi : (sm m)[i]? = some (u, mget m u) := by rw [eM, List.getElem?_map, hu]; rfl
        have k7 := k5.trans k6
        have nin : u ∉ ((sm m).take i).map (·.1) := by
          rw [List.map_take, kM]
          exact take_none ynd hu
        have l6 : ks'.length < sizeLine := by
          refine size_ok ?_
          rw [dm'.len, List.length_take]
          have := gM.l6
          omega
        have tk : (sm m).take (i + 1) = (sm m).take i ++ [(u, mget m u)] := by rw [List.take_add_one, hMi]; rfl
        walk_at "rd"
        refine ⟨a, v, rfl, .inl ⟨kvs, Sum.inr u, .inl (k7 _ _ ha (by simp)), rfl, hv.symm⟩, ?_⟩
        obtain ⟨q', rfl, hq'⟩ := hq.keep k7
        rcases hq' with hq' | hq'
        · refine ⟨q', _, rfl, .inl ⟨.inl (.inl hq'), fun l hl => ?_⟩⟩
          have nl : l ≠ D := fun e => by rw [e, hd'] at hl; cases hl
          have hd2 : (upd H4 l (.tup ((mget m u).map V.str))) D = some (.dK ks') := by rw [upd_ne (Ne.symm nl)]; exact hd'
          obtain ⟨s1, s2⟩ := (dm'.imp fun _ _ r => (r.keep (keep_new (o := .tup ((mget m u).map V.str)) hl)).put (o' := .dK (ks' ++ [(Sum.inr u, .ref l)])) hd2 (fun _ z => by cases z)).snoc (v := .ref l) (xs := mget m u) ⟨l, rfl, by rw [upd_ne nl, upd_same]⟩ nin
          refine ⟨ks', Sum.inr u, rfl, hd2, l6, ks' ++ [(Sum.inr u, .ref l)], ?_, ?_, ?_⟩
          · rw [s1, upd_same]
          · exact keep_free (k6.trans (keep_new hl)) hD
          · rw [s1, tk]
            exact s2
        · refine ⟨q', _, rfl, .inr ⟨.inl (.inl hq'), ?_⟩⟩
          have nq : q' ≠ D := ne_of hq' hd' (fun z => by cases z)
          obtain ⟨s1, s2⟩ := (dm'.imp fun _ _ r => r.put (o' := .dK (ks' ++ [(Sum.inr u, .ref q')])) hd' (fun _ z => by cases z)).snoc (v := .ref q') (xs := mget m u) ⟨q', rfl, by rw [upd_ne nq]; exact hq'⟩ nin
          refine ⟨ks', Sum.inr u, rfl, hd', l6, ks' ++ [(Sum.inr u, .ref q')], ?_, ?_, ?_⟩
          · rw [s1, upd_same]
          · exact keep_free k6 hD
          · rw [s1, tk]
            exact s2
      · obtain ⟨ks', hd', k6, dm'⟩ := h
        rw [List.length_map] at dm'
        have lM : ys2.length = (sm m).length := by rw [eM, List.length_map]
        rw [lM, List.take_length] at dm'
        have k7 := k5.trans k6
        refine ⟨_, rfl, p, _, dx, _, rfl, k7 _ _ hp (by simp), T.cl_People, T.na_People__held, by decide, ?_⟩
        have np : p ≠ D := ne_of (k7 _ _ hp (by simp)) hd' (fun z => by cases z)
        have dm2 := dm'.imp fun _ _ r => r.put (o' := .ins A.C_People dx (putF (Str.ofString "_held") (.ref D) [])) (k7 _ _ hp (by simp)) (fun _ z => by cases z)
        have hd2 : upd H' p (.ins A.C_People dx (putF (Str.ofString "_held") (.ref D) [])) D = some (.dK ks') := by rw [upd_ne (Ne.symm np)]; exact hd'
        have hp2 : upd H' p (.ins A.C_People dx (putF (Str.ofString "_held") (.ref D) [])) p = some (.ins A.C_People dx [("_held", .ref D)]) := upd_same
        have k8 : Keep [p] H (upd H' p (.ins A.C_People dx (putF (Str.ofString "_held") (.ref D) []))) := fun b o hb nb => by
          rw [upd_ne (by simpa using nb)]
          exact k7 _ _ hb (by simp)
        generalize upd H' p (.ins A.C_People dx (putF (Str.ofString "_held") (.ref D) [])) = H5 at dm2 hd2 hp2 k8 ⊢
        clear dm' hd' k7 k6 hD h2l k5
        refine ⟨D, _, hd2, trivial, fun od => ?_⟩
        refine ⟨_, rfl, p, _, dx, _, _, rfl, (by rw [upd_ne np]; exact hp2), T.cl_People, T.na_People__held, rfl, D, od, rfl, .inl ⟨ks', upd_same, fun S hS => ?_⟩⟩
        have nSD : S ≠ D := fun e => by rw [e, upd_same] at hS; cases hS
        have nSp : p ≠ S := fun e => by rw [← e, upd_ne np, hp2] at hS; cases hS
        refine ⟨_, ⟨_, rfl, Nat.zero_le _, ?h0⟩, round_it walk_keys (fun i H' => H' = upd (upd H5 D (.frz od (.dK ks'))) S (SetS P w S (once [] (flatM ((sm m).take i))))) (fun i H' _ e => ?hG) (fun i x H6 H7 hi e y => ?hs) (fun H6 e => ?hd)⟩
        case h0 => rfl
        case hG =>
          subst e
          rw [upd_ne (Ne.symm nSD), upd_same]
        case hs =>
          subst e
          obtain ⟨rfl, k, v, hkv, rfl⟩ := y
          obtain ⟨e, he, rfl, q', rfl, h2⟩ := dm2.get hkv
          have hem := List.mem_of_getElem? he
          obtain ⟨v', hv, q', rfl, h2⟩ := dm2.val (List.mem_map_of_mem hem)
          rw [mget_mem gM.nd hem] at h2
          have nq : q' ≠ D := ne_of h2 hd2 (fun z => by cases z)
          have nqS : q' ≠ S := fun e => by rw [← e, upd_ne nq, h2] at hS; cases hS
          refine ⟨rfl, ?_⟩
          refine ⟨_, rfl, p, _, dx, _, _, rfl, (by rw [upd_ne nSp, upd_ne np]; exact hp2), T.cl_People, T.na_People__held, rfl, _, rfl, ?_⟩
          refine ⟨D, _, rfl, .inl ⟨ks', Sum.inr e.1, .inr ⟨od, by rw [upd_ne (Ne.symm nSD), upd_same]⟩, rfl, hv.symm⟩, ?_⟩
          have hq : ∀ o, SqT K (upd (upd H5 D (.frz od (.dK ks'))) S o) q' (e.2.map V.str) := fun o => .inl (.inl (by rw [upd_ne nqS, upd_ne nq]; exact h2))
          refine ⟨q', rfl, ⟨_, hq _⟩, ?_⟩
          refine ⟨_, ⟨_, rfl, Nat.zero_le _, ?h1⟩, round_it (walk_tup (xs := e.2.map V.str)) (fun j H' => H' = upd (upd H5 D (.frz od (.dK ks'))) S (SetS P w S (once [] (flatM ((sm m).take i) ++ e.2.take j)))) (fun j H' _ e => ?hG1) (fun j x H6 H7 hj e y => ?hs1) (fun H6 e => ?hd1)⟩
          case h1 =>
            show _ = upd _ S (SetS P w S (once [] (_ ++ [])))
            rw [List.append_nil]
          case hG1 =>
            subst e
            exact hq _
          case hs1 =>
            subst e
            obtain ⟨rfl, hx⟩ := y
            rw [List.getElem?_map] at hx
            obtain ⟨t, ht, rfl⟩ := Option.map_eq_some_iff.mp hx
            refine ⟨rfl, _, rfl, t, _, rfl, upd_same, ?_, ?_⟩
            · have h1 := once_len (flatM ((sm m).take i) ++ e.2.take j) []
              have h2 := flat_take_len gM i
              have h3 := (gM.gs e hem).2.2.2
              rw [List.length_append, List.length_take] at h1
              simp only [List.length_nil] at h1
              refine Nat.lt_of_le_of_lt (show _ ≤ 100 by omega) (by decide)
            · rw [upd_again, ← once_app, List.append_assoc, List.take_add_one, ht]
              rfl
          case hd1 =>
            subst e
            rw [List.length_map, List.take_length, ← flat_take he]
        case hd =>
          subst e
          refine ⟨by rw [upd_ne (Ne.symm nSD), upd_same], ?_⟩
          have lks : ks'.length = (sm m).length := dm2.len
          rw [lks, List.take_length]
          have k9 : Keep [] H5 (upd (upd (upd H5 D (.frz od (.dK ks'))) S (SetS P w S (once [] (flatM (sm m))))) D (.dK ks')) := keep_lock hd2 (keep_new hS)
          have hS9 : (upd (upd (upd H5 D (.frz od (.dK ks'))) S (SetS P w S (once [] (flatM (sm m))))) D (.dK ks')) S = some (SetS P w S (once [] (flatM (sm m)))) := by rw [upd_ne nSD, upd_same]
          generalize upd (upd (upd H5 D (.frz od (.dK ks'))) S (SetS P w S (once [] (flatM (sm m))))) D (.dK ks') = H9 at k9 hS9 ⊢
          have few := once_few gM
          refine ⟨S, _, rfl, hS9, by omega, fun gs G pg sg nG => ?_⟩
          have egs : gs = gsOf m := by rw [srt_eq pg sg]; exact gs_perm pM
          have gmem : ∀ x, x ∈ gs ↔ ∃ e ∈ sm m, x ∈ e.2 := fun x => by rw [pg.mem_iff, once_mem, mem_flatM]; simp
          have gl : gs.length ≤ 6 := by rw [pg.length_eq]; exact few
          have hp9 := k9 _ _ hp2 (by simp)
          have hd9 := k9 _ _ hd2 (by simp)
          have nGp : p ≠ G := fun e => by rw [← e, hp9] at nG; cases nG
          have nGD : D ≠ G := fun e => by rw [← e, hd9] at nG; cases nG
          refine ⟨_, rfl, p, _, dx, _, rfl, (by rw [upd_ne nGp]; exact hp9), T.cl_People, T.na_People__groups, (by show 1 < 1000; decide), ?_⟩
          have hp10 : (upd (upd H9 G (.lst (gs.map V.str))) p (.ins A.C_People dx (putF (Str.ofString "_groups") (.ref G) [("_held", .ref D)]))) p = some (.ins A.C_People dx [("_held", .ref D), ("_groups", .ref G)]) := upd_same
          have hG10 : (upd (upd H9 G (.lst (gs.map V.str))) p (.ins A.C_People dx (putF (Str.ofString "_groups") (.ref G) [("_held", .ref D)]))) G = some (.lst (gs.map V.str)) := by rw [upd_ne (Ne.symm nGp), upd_same]
          have hD10 : (upd (upd H9 G (.lst (gs.map V.str))) p (.ins A.C_People dx (putF (Str.ofString "_groups") (.ref G) [("_held", .ref D)]))) D = some (.dK ks') := by rw [upd_ne (Ne.symm np), upd_ne nGD]; exact hd9
          have dm10 : DM (RT (upd (upd H9 G (.lst (gs.map V.str))) p (.ins A.C_People dx (putF (Str.ofString "_groups") (.ref G) [("_held", .ref D)])))) ks' (sm m) :=
            dm2.imp fun _ _ r => ((r.keep k9).keep (keep_new nG)).put (by rw [upd_ne nGp]; exact hp9) (fun _ z => by cases z)
          have k10 : Keep [p] H (upd (upd H9 G (.lst (gs.map V.str))) p (.ins A.C_People dx (putF (Str.ofString "_groups") (.ref G) [("_held", .ref D)]))) := fun b o hb nb => by
            rw [upd_ne (by simpa using nb)]
            exact (k9.trans (keep_new nG)) _ _ (k8 _ _ hb nb) (by simp)
          generalize upd (upd H9 G (.lst (gs.map V.str))) p (.ins A.C_People dx (putF (Str.ofString "_groups") (.ref G) [("_held", .ref D)])) = H10 at hp10 hG10 hD10 dm10 k10 ⊢
          have fD : H D = none := by
            cases e : H D with
            | none => rfl
            | some o =>
              have := kD0 _ _ e (by simp)
              rw [hD0] at this
              cases this
          have fG : H G = none := by
            cases e : H G with
            | none => rfl
            | some o =>
              have := k9 _ _ (k8 _ _ e (by simpa using Ne.symm nGp)) (by simp)
              rw [nG] at this
              cases this
          have fin := q H10 D G dx ks' k10 pM (by rw [← egs]; exact ⟨hp10, hD10, dm10, hG10, gM, gmem, gl⟩) fD fG
          refine ⟨_, rfl, p, _, dx, _, _, rfl, hp10, T.cl_People, T.na_People__groups, rfl, ?_⟩
          refine ⟨G, _, rfl, .inl (.inl (Rd.of hG10)), ?_⟩
          refine ⟨_, _, rfl, rfl, _, rfl, ?_⟩
          refine ifF (decide_eq_false (by rw [List.length_map]; omega)) ?_
          exact fin
end
end K26
namespace K26
open PySem PySem.Spec PyProof.Rows L2 FR TL
open C8 (pss_cut pe_gc)
abbrev Es := List (Addr × Str × List Str)
def dEs (es : Es) : List (L2.Key × V) := es.map fun e => (Sum.inr e.2.1, .ref e.1)
def mEs (es : Es) : Mp := es.map (·.2)
structure ML (H : Hp) (a : Addr) (es : Es) : Prop where
  hd : H a = some (.dK (dEs es))
  hl : ∀ e ∈ es, H e.1 = some (.lst (e.2.2.map V.str))
theorem ML.keep {H H' : Hp} {a : Addr} {es : Es} (h : ML H a es) (k : Keep [] H H') : ML H' a es := ⟨k _ _ h.hd (by simp), fun e he => k _ _ (h.hl e he) (by simp)⟩
theorem dm_es {R : V → List Str → Prop} : ∀ {es : Es}, (∀ e ∈ es, R (.ref e.1) e.2.2) → DM R (dEs es) (mEs es)
  | [], _ => .nil
  | e :: r, h => .cons ⟨rfl, h e List.mem_cons_self⟩ (dm_es fun x hx => h x (List.mem_cons_of_mem _ hx))
theorem ML.dm {H : Hp} {a : Addr} {es : Es} (h : ML H a es) : DM (RL H) (dEs es) (mEs es) := dm_es fun e he => ⟨e.1, rfl, h.hl e he⟩
def psEs (es : Es) : List (Addr × List V) := es.map fun e => (e.1, e.2.2.map V.str)
theorem dEs_len (es : Es) : (dEs es).length = es.length := List.length_map _
theorem mEs_len (es : Es) : (mEs es).length = es.length := List.length_map _
def usB (s : Str) : Bool := decide (1 ≤ s.length) && decide (s.length ≤ 8) && (tl s).all lc && decide (s ≠ Str.ofString "root")
theorem us_of {s : Str} (h : usB s = true) : Us s := by
  unfold usB at h
  simp only [Bool.and_eq_true, decide_eq_true_eq, List.all_eq_true] at h
  exact ⟨⟨h.1.1.1, h.1.1.2, h.1.2⟩, h.2⟩
def lets : Str := Str.ofString "abcdefghijklmnopqrstuvwxyz"
theorem lets_lc {c : Nat} (h : c ∈ lets.cps.toList) : lc c = true := List.all_eq_true.mp (show lets.cps.toList.all lc = true by decide +kernel) c h
theorem first_us : ∀ k : Fin 6, usB ((⟨#[97]⟩ : Str) ++ cutS (Str.ofString "bcdefgh") none (some (k.1 : Int))) = true := by decide +kernel
theorem tl_cutFrom (s : Str) (k : Nat) : tl (cutS s (some (k : Int)) none) = (tl s).drop k := by
  rw [tl_cutS]
  show ((tl s).drop (HT.sIx s.length 0 (some (k : Int)))).take (s.length - HT.sIx s.length 0 (some (k : Int))) = _
  rw [HT.sIx_nat, len_tl]
  by_cases h : k ≤ (tl s).length
  · rw [Nat.min_eq_left h, List.take_of_length_le (by rw [List.length_drop]; exact Nat.le_refl _)]
  · rw [Nat.min_eq_right (by omega), Nat.sub_self, List.take_zero, List.drop_of_length_le (by omega)]
section
variable {P : Program} {w : World} {K : PySem.W.Frag} {mg : Str → Option Value} {base : Heap} {A : Ads}
set_option pp.maxSteps 120
theorem ok_all_groups (T : Txt w K mg A) : FnOk P w K mg base CX0 1 A.f_all_groups A.d_all_groups ["_law_members_here"] (fun vs H Q _ => ∃ a es, vs = [.ref a] ∧ ML H a es ∧ Mk (mEs es) ∧ NewO (.lst ((gsOf (mEs es)).map V.str)) Q H) := by
  refine T.F_all_groups.ok sc_all_groups (fun vs H Q E h => ?_) (fun cdv A_ outer s_ H vs Q E hr h => ?_)
  · obtain ⟨a, es, rfl, _⟩ := h
    rfl
  · obtain ⟨a, es, rfl, h, gd, q⟩ := h
    refine ⟨_, (pss_one (ps_ret (pe_callB (cr_sortSet rfl) (by rfl) T.b_sorted (by decide +kernel) (pa_cons (pe_callTy (cr_setS rfl) (by rfl) T.b_set (by decide +kernel) (pa_cons (pe_callBK (cr_sumL rfl) (by rfl) T.b_sum (by decide +kernel) (pa_cons (pe_callTy (call_lVals rfl) (by rfl) T.b_list (by decide +kernel) (pa_cons (pe_bm0 PySem.F.plainAttrs_dict PySem.F.slot_dict_values PySem.F.type_dict_values mt_valuesK (pv 0)) pa_nil)) pa_nil) (pk_cons (pe_lstS pa_nil) pk_nil)) pa_nil)) pa_nil)))), ?_⟩
    refine ⟨_, rfl, ?_⟩
    refine ⟨.inr (.inr (.inl ⟨rfl, .inl ⟨_, h.hd⟩⟩)), a, _, rfl, rfl, h.hd, fun p1 n1 => ?_⟩
    have hd1 : upd H p1 (valuesO p1 a) a = some (.dK (dEs es)) := by
      rw [upd_ne (ne_of_none h.hd n1)]
      exact h.hd
    refine ⟨p1, a, _, rfl, upd_same, hd1, NewO.mk fun p2 H2 n2 k2 h2 => ?_⟩
    have k3 : Keep [] H H2 := (keep_new n1).trans k2
    clear k2 hd1
    refine ⟨Nat.zero_le _, NewS.mk fun p4 H4 n4 s4 k4 h4 => ?_⟩
    have k5 := k3.trans k4
    have hS : SqL K H4 p2 ((psEs es).map fun p => V.ref p.1) := by
      have := k4 _ _ h2 (by simp)
      refine .inl (.inl ?_)
      rw [this]
      unfold dEs psEs
      rw [List.map_map, List.map_map]
      rfl
    have hsum : ((psEs es).map (fun p => p.2.length)).sum = (flatM (mEs es)).length := by
      unfold flatM mEs psEs
      rw [List.length_flatten, List.map_map, List.map_map, List.map_map]
      congr 1
      exact List.map_congr_left fun e _ => List.length_map _
    have hfl : ((psEs es).map (·.2)).flatten = (flatM (mEs es)).map V.str := by
      unfold flatM mEs psEs
      rw [List.map_map, List.map_map, List.map_flatten, List.map_map]
      rfl
    have fl := flat_len gd
    refine ⟨p2, p4, psEs es, rfl, rfl, hS, h4, fun p hp => ?_, fun e => ?_, by rw [hsum]; omega, fun p6 n6 => ?_⟩
    · obtain ⟨e, he, rfl⟩ := List.mem_map.mp hp
      exact k5 _ _ (h.hl e he) (by simp)
    · have := gd.l1
      unfold psEs at e
      rw [List.map_eq_nil_iff] at e
      rw [e] at this
      simp [mEs] at this
    rw [hfl]
    refine ⟨.ref p6, flatM (mEs es), rfl, ⟨p6, rfl, .inl (.inl (.inl upd_same))⟩, by omega, fun p7 n7 => ?_⟩
    have few := once_few gd
    refine ⟨p7, _, rfl, upd_same, by omega, fun ys p8 py sy n8 => ?_⟩
    obtain rfl : ys = gsOf (mEs es) := srt_eq py sy
    refine q.to p8 _ ?_ (((k5.trans (keep_new n6)).trans (keep_new n7)).trans (keep_new n8)) upd_same
    exact ((k5.trans (keep_new n6)).trans (keep_new n7)).free n8
def spNames : Sp := fun vs H Q _ => ∃ (b : Addr) (many n : Nat) (x y z : Int), vs = [.ref b, .int many] ∧ H b = some (bagO x y z) ∧ BagOk n x y z ∧ n < 900000 ∧ 1 ≤ many ∧ many ≤ 6 ∧
  ∀ (ns : List Str) (p : Addr) (x' y' z' : Int) (H' : Hp), Uss ns → ns.length = many → BagOk (n + 20) x' y' z' → Keep [b] H H' → H' b = some (bagO x' y' z') → H p = none → H' p = some (.lst (ns.map V.str)) → Q (.ref p) H'
theorem ok_names (T : Txt w K mg A) : FnOk P w K mg base CX0 2 A.f_names A.d_names ["_law_bag_here", "_law_many"] spNames := by
  refine T.F_names.ok sc_names (fun vs H Q E h => ?_) (fun cdv A_ outer s_ H vs Q E hr h => ?_)
  · obtain ⟨b, many, n, x, y, z, rfl, _⟩ := h
    rfl
  · obtain ⟨b, many, n, x, y, z, rfl, hb, ok, hn, m0, m1, q⟩ := h
    have W := Ow.start1 hb
    have hsz : lets.length ≤ sizeLine := size_le (by decide +kernel)
    have hsl : lets.length = 26 := by decide +kernel
    refine ⟨_, (pss_cons (ps_set (i := 2) sc_names.nd rfl (.inr rfl) pe_str)
  (pss_cons (ps_if (pt_cmpR op_eq (pe_call (ok_take T) (hr.mono (by decide)) (by rfl) T.g_take T.F_take.kp T.B_take .nil pass0 (pa_cons (pv 0) (pa_cons pe_int pa_nil))) pe_int (nomark _)) (pss_one (ps_ret (pe_stepL (pe_lc (own := [("_law_k", 8)]) (g := gName 8) rfl sc_names.nd (pi_range1 (by rfl) T.b_range (pa_cons (pv 1) pa_nil)) (blkOk_by (own := [("_law_k", 8)]) (N := N_names) (sc := defScope s_names) (by decide +kernel)) (fun _ _ _ _ _ => pg_name (i := 8) sc_names.nd rfl (Or.inl rfl)) (fun _ _ _ _ _ => pts_nil) (fun _ _ _ _ _ => (pe_op op_add_str (pe_ix ix_str (pv 2) (pe_call (ok_take T) (hr.mono (by decide)) (by rfl) T.g_take T.F_take.kp T.B_take .nil pass0 (pa_cons (pv 0) (pa_cons pe_int pa_nil))) (fun _ _ => rfl)) (pe_slice sl_str pe_str po_none (po_some (pv 8)))))) (po_some (pe_ix ix_list (pe_lstS (pa_cons pe_int (pa_cons (pe_un un_neg pe_int) pa_nil))) (pe_call (ok_take T) (hr.mono (by decide)) (by rfl) T.g_take T.F_take.kp T.B_take .nil pass0 (pa_cons (pv 0) (pa_cons pe_int pa_nil))) (fun _ _ => rfl)))))) pss_nil)
  (pss_cons (ps_set (i := 3) sc_names.nd rfl (.inr rfl) (pe_join pe_str (pe_lc (own := [("_law_k", 8)]) (g := gName 8) rfl sc_names.nd (pi_range1 (by rfl) T.b_range (pa_cons (pe_call (ok_take T) (hr.mono (by decide)) (by rfl) T.g_take T.F_take.kp T.B_take .nil pass0 (pa_cons (pv 0) (pa_cons pe_int pa_nil))) pa_nil)) (blkOk_by (own := [("_law_k", 8)]) (N := N_names) (sc := defScope s_names) (by decide +kernel)) (fun _ _ _ _ _ => pg_name (i := 8) sc_names.nd rfl (Or.inl rfl)) (fun _ _ _ _ _ => pts_nil) (fun _ _ _ _ _ => (pe_ix ix_str (pv 2) (pe_call (ok_take T) (hr.mono (by decide)) (by rfl) T.g_take T.F_take.kp T.B_take .nil pass0 (pa_cons (pv 0) (pa_cons pe_int pa_nil))) (fun _ _ => rfl))))))
  (pss_cons (ps_asg (pe_tupN (pa_cons (pe_call (ok_take T) (hr.mono (by decide)) (by rfl) T.g_take T.F_take.kp T.B_take .nil pass0 (pa_cons (pv 0) (pa_cons (pe_op op_add (pe_callB call_len_str (by rfl) T.b_len PySem.boot_len (pa_cons (pv 3) pa_nil)) pe_int) pa_nil))) (pa_cons (pe_call (ok_take T) (hr.mono (by decide)) (by rfl) T.g_take T.F_take.kp T.B_take .nil pass0 (pa_cons (pv 0) (pa_cons pe_int pa_nil))) pa_nil))) (pg_tup rfl (pgs_cons (pg_name (i := 4) sc_names.nd rfl (.inr rfl)) (pgs_cons (pg_name (i := 5) sc_names.nd rfl (.inr rfl)) pgs_nil))))
  (pss_cons (ps_set (i := 6) sc_names.nd rfl (.inr rfl) (pe_ix ix_list (pe_lstS (pa_cons pe_int (pa_cons pe_int (pa_cons pe_int (pa_cons pe_int (pa_cons pe_int (pa_cons pe_int pa_nil))))))) (pe_call (ok_take T) (hr.mono (by decide)) (by rfl) T.g_take T.F_take.kp T.B_take .nil pass0 (pa_cons (pv 0) (pa_cons pe_int pa_nil))) (fun _ _ => rfl)))
  (pss_cons (ps_setLc (i := 7) (own := [("_law_k", 8)]) (g := gName 8) rfl sc_names.nd rfl rfl (sw_true rfl rfl rfl (by decide +kernel)) (pi_range1 (by rfl) T.b_range (pa_cons (pv 1) pa_nil)) (blkOk_by (own := [("_law_k", 8)]) (N := N_names) (sc := defScope s_names) (by decide +kernel)) (fun _ _ _ _ _ => pg_name (i := 8) sc_names.nd rfl (Or.inl rfl)) (fun _ _ _ _ _ => pts_nil) (fun _ _ _ _ _ => (pe_op op_add_str (pe_op op_add_str (pe_slice sl_str (pv 3) po_none (po_some (pv 4))) (pe_ix ix_str (pv 2) (pe_op op_mod (pe_op op_add (pv 5) (pe_op op_mul (pv 6) (pv 8))) pe_int) (fun _ _ => rfl))) (pe_slice sl_str (pv 3) (po_some (pv 4)) po_none))))
  (pss_one (ps_ret (pe_lc (own := [("_law_name", 9)]) (g := gName 9) rfl sc_names.nd (pi_list (pv 7)) (blkOk_by (own := [("_law_name", 9)]) (N := N_names) (sc := defScope s_names) (by decide +kernel)) (fun _ _ _ _ _ => pg_name (i := 9) sc_names.nd rfl (Or.inl rfl)) (fun _ _ _ _ _ => pts_nil) (fun _ _ _ _ _ => (pe_ix (ix_listK (K := K) rfl) (pe_lstS (pa_cons (pv 9) (pa_cons pe_str pa_nil))) (pe_callTy call_int1 (by rfl) T.b_int (by decide +kernel) (pa_cons (pe_cmpR op_eq (pv 9) pe_str (nomark _)) pa_nil)) (fun _ _ => rfl)))))))))))), ?_⟩
    walk_at "rd"
    walk_at "take"
    rename_i d2 x2 y2 z2 H2 d20 d21 ok2 kp2 hb2 W2
    walk_at "rd"
    refine ifVI (fun c => ?_) (fun c => ?_)
    · refine ⟨_, rfl, _, rfl, by omega, by omega, ?_⟩
      intro D hD
      refine lc_rg (fun i H' => ∃ (l : List Str) (x y z : Int), l.length = i ∧ Uss l ∧ BagOk (n + 1 + i) x y z ∧ Ow H [b] H' [(D, .lst (l.map V.str)), (b, bagO x y z)]) ?_ ?_ ?_
      · exact ⟨[], _, _, _, rfl, fun _ h => by simp at h, ok2, W2.new hD⟩
      · rintro i H5 hi ⟨l, x5, y5, z5, hl, hl2, ok5, W5⟩
        have hi1 : i < many := hi
        have hi' : i < 6 := by omega
        walk_at "rd"
        walk_at "take"
        rename_i d6 x6 y6 z6 H6 d60 d61 ok6 kp6 hb6 W6
        have d0 : d6 = 0 := by omega
        subst d0
        refine ⟨_, _, _, rfl, rfl, hsz, (show _ = some 97 by decide +kernel), ?_⟩
        walk_at "rd"
        have ul := first_us ⟨i, hi'⟩
        have c7 := cutS_len (Str.ofString "bcdefgh") none (some (0 + (i : Int)))
        rw [show (Str.ofString "bcdefgh").length = 7 by decide +kernel] at c7
        refine ⟨size_le (by show 1 + _ ≤ _; omega), ?_⟩
        rw [show ((0 : Int) + (i : Int)) = (i : Int) by omega]
        generalize (⟨#[97]⟩ : Str) ++ cutS (Str.ofString "bcdefgh") none (some (i : Int)) = t at ul ⊢
        refine ⟨_, W6.get 0 rfl, size_ok (by rw [List.length_map]; omega), l ++ [t], x6, y6, z6, by rw [List.length_append, hl]; rfl, fun s hs => ?_, ok6.mono (by omega), ?_⟩
        · rcases List.mem_append.mp hs with h | h
          · exact hl2 s h
          · rw [List.mem_singleton.mp h]; exact us_of ul
        · rw [List.map_append]
          exact W6.set 0 rfl
      · rintro H7 ⟨l, x7, y7, z7, hl, hl2, ok7, W7⟩
        have hl : l.length = many := hl
        refine ⟨D, _, rfl, W7.sq 0 rfl, ?_⟩
        walk_at "rd"
        rename_i p8 H8 np8 sp8 kp8 hp8 W8
        walk_at "take"
        rename_i d9 x9 y9 z9 H9 d90 d91 ok9 kp9 hb9 W9
        obtain ⟨v, hv, hm⟩ := atI_in (xs := [V.int 1, V.int (-1)]) d90 d91
        refine ⟨_, _, _, v, rfl, rfl, W9.sq 0 rfl, hv, ?_⟩
        simp only [List.mem_cons, List.not_mem_nil, or_false] at hm
        have fr : ∀ p9, H9 p9 = none → H p9 = none := fun p9 h9 => by
          by_cases e : p9 = b
          · rw [e, W9.get 2 rfl] at h9
            cases h9
          · cases h0 : H p9 with
            | none => rfl
            | some o =>
              have := W9.keep p9 o h0 (by simpa using e)
              rw [h9] at this
              cases this
        rcases hm with rfl | rfl
        · refine ⟨_, rfl, W9.sq 1 rfl, .inl ⟨rfl, fun p9 h9 => ?_⟩⟩
          have W10 := W9.new (o := .lst (l.map V.str)) h9
          exact q l p9 _ _ _ _ hl2 hl (ok9.mono (by omega)) W10.keep (W10.get 3 rfl) (fr p9 h9) upd_same
        · refine ⟨_, rfl, W9.sq 1 rfl, .inr ⟨rfl, fun p9 h9 => ?_⟩⟩
          have W10 := W9.new (o := .lst (l.map V.str).reverse) h9
          refine q l.reverse p9 _ _ _ _ (fun s hs => hl2 s (List.mem_reverse.mp hs)) (by rw [List.length_reverse, hl]) (ok9.mono (by omega)) W10.keep (W10.get 3 rfl) (fr p9 h9) ?_
          rw [upd_same, List.map_reverse]
    · walk_at "rd"
      walk_at "take"
      rename_i d3 x3 y3 z3 H3 d30 d31 ok3 kp3 hb3 W3
      obtain ⟨jj, rfl⟩ := Int.eq_ofNat_of_zero_le d30
      refine ⟨_, rfl, by omega, by omega, ?_⟩
      intro D hD
      refine lc_rg (fun i H' => ∃ (l : List Nat) (x y z : Int), l.length = i ∧ (∀ c ∈ l, lc c = true) ∧ BagOk (n + 2 + i) x y z ∧ Ow H [b] H' [(D, .lst ((sg l).map V.str)), (b, bagO x y z)]) ?_ ?_ ?_
      · exact ⟨[], _, _, _, rfl, by simp, ok3, W3.new hD⟩
      · rintro i H5 hi ⟨l, x5, y5, z5, hl, hl2, ok5, W5⟩
        have hi1 : i < jj := hi
        have hi' : i < 8 := by omega
        walk_at "rd"
        walk_at "take"
        rename_i d6 x6 y6 z6 H6 d60 d61 ok6 kp6 hb6 W6
        obtain ⟨e, he, hm⟩ := atI_in (xs := lets.cps.toList) d60 (by rw [show (lets.cps.toList.length : Int) = (lets.length : Int) by rw [len_tl]]; exact d61)
        have he' := lets_lc hm
        refine ⟨_, _, _, rfl, rfl, hsz, he, ?_⟩
        refine ⟨_, W6.get 0 rfl, size_ok (by rw [List.length_map, sg_len]; omega), l ++ [e], x6, y6, z6, by rw [List.length_append, hl]; rfl, ?_, ok6.mono (by omega), ?_⟩
        · intro d hd
          rcases List.mem_append.mp hd with h | h
          · exact hl2 d h
          · rw [List.mem_singleton.mp h]; exact he'
        · rw [sg_app]
          exact W6.set 0 rfl
      · rintro H7 ⟨l, x7, y7, z7, hl, hl2, ok7, W7⟩
        have hl7 : l.length = jj := hl
        walk_at "rd"
        refine ⟨_, _, sg l, rfl, rfl, .inl (W7.sq 0 rfl), by rw [sum_one sg_one, sg_len, show (Str.ofString "").length = 0 by decide +kernel]; omega, ?_⟩
        have hs : (Txt.join (Str.ofString "") (sg l)).length = jj := by rw [len_tl, tl_joined_sg, hl7]
        have ha : ∀ c ∈ tl (Txt.join (Str.ofString "") (sg l)), lc c = true := by rw [tl_joined_sg]; exact hl2
        generalize Txt.join (Str.ofString "") (sg l) = st at hs ha
        have W8 : Ow H [b] H7 [(b, bagO x7 y7 z7)] := W7.tail
        have ok8 : BagOk (n + 10) x7 y7 z7 := ok7.mono (by rw [show (jj : Int).toNat = jj by omega] at *; omega)
        clear W7 ok7
        walk_at "rd"
        walk_at "take"
        rename_i d9 x9 y9 z9 H9 d90 d91 ok9 kp9 hb9 W9
        walk_at "rd"
        walk_at "take"
        rename_i d10 x10 y10 z10 H10 d100 d101 ok10 kp10 hb10 W10
        walk_at "rd"
        rename_i p11 H11 np11 kp11 hp11 W11
        refine ⟨p11, _, rfl, W11.sqT 0 rfl, rfl, ?_⟩
        have W12 := W11.tail
        clear W11
        obtain ⟨at_, rfl⟩ := Int.eq_ofNat_of_zero_le d90
        obtain ⟨fi, rfl⟩ := Int.eq_ofNat_of_zero_le d100
        walk_at "rd"
        rename_i p13 H13 np13 sp13 kp13 hp13 W13
        walk_at "take"
        rename_i d14 x14 y14 z14 H14 d140 d141 ok14 kp14 hb14 W14
        obtain ⟨v, hv, hm⟩ := atI_in (xs := [V.int 1, V.int 3, V.int 5, V.int 7, V.int 9, V.int 11]) d140 d141
        obtain ⟨st2, rfl, t0, t1⟩ : ∃ j : Nat, v = .int j ∧ 0 ≤ j ∧ j ≤ 11 := by
          simp at hm
          rcases hm with rfl | rfl | rfl | rfl | rfl | rfl
          · exact ⟨1, rfl, by omega, by omega⟩
          · exact ⟨3, rfl, by omega, by omega⟩
          · exact ⟨5, rfl, by omega, by omega⟩
          · exact ⟨7, rfl, by omega, by omega⟩
          · exact ⟨9, rfl, by omega, by omega⟩
          · exact ⟨11, rfl, by omega, by omega⟩
        refine ⟨_, _, _, _, rfl, rfl, W14.sq 0 rfl, hv, ?_⟩
        have W15 := W14.tail
        clear W14 W13 W12 W10 W9 W8
        refine ⟨_, rfl, _, rfl, by omega, by omega, ?_⟩
        intro D2 hD2
        refine lc_rg (fun i H' => ∃ (l : List Str), l.length = i ∧ (∀ s ∈ l, Nm s) ∧ Ow H [b] H' [(D2, .lst (l.map V.str)), (b, bagO x14 y14 z14)]) ?_ ?_ ?_
        · exact ⟨[], rfl, by simp, W15.new hD2⟩
        · rintro i H5 hi ⟨l, hl, hl2, W5⟩
          have hi1 : i < many := hi
          walk_at "rd1"
          walk_at "rd1"
          walk_at "rd1"
          refine ⟨_, rfl, _, rfl, size_le (by omega), ?_⟩
          refine ⟨_, rfl, _, rfl, _, rfl, _, rfl, _, _, rfl, rfl, .inl ⟨by omega, by omega⟩, _, _, rfl, rfl, _, _, rfl, rfl, (show (0 : Int) < 26 by decide), ?_⟩
          have m0 : (0 : Int) ≤ ((fi : Int) + (st2 : Int) * (0 + (i : Int))) % 26 := Int.emod_nonneg _ (by decide)
          have m1 : ((fi : Int) + (st2 : Int) * (0 + (i : Int))) % 26 < 26 := Int.emod_lt_of_pos _ (by decide)
          obtain ⟨e, he, hme⟩ := atI_in (xs := lets.cps.toList) m0 (by rw [show (lets.cps.toList.length : Int) = (lets.length : Int) by rw [len_tl], hsl]; exact m1)
          have he' := lets_lc hme
          refine ⟨_, _, e, rfl, rfl, hsz, he, ?_⟩
          have hat : at_ ≤ jj := by omega
          have lc1 : (cutS st none (some (at_ : Int))).length = at_ := by
            rw [len_tl, tl_cutTo, List.length_take, ← len_tl]
            omega
          refine ⟨_, _, rfl, rfl, size_le (by rw [lc1]; show at_ + 1 ≤ _; omega), ?_⟩
          have lc2 : (cutS st (some (at_ : Int)) none).length = jj - at_ := by
            rw [len_tl, tl_cutFrom, List.length_drop, ← len_tl, hs]
          have lc3 : (cutS st none (some (at_ : Int)) ++ ⟨#[e]⟩).length = at_ + 1 := by rw [len_app, lc1]; rfl
          refine ⟨_, rfl, _, rfl, _, rfl, _, rfl, size_le (by omega), ?_⟩
          refine ⟨_, _, rfl, rfl, size_le (by rw [lc2, lc3]; omega), ?_⟩
          have nm : Nm ((cutS st none (some (at_ : Int)) ++ ⟨#[e]⟩) ++ cutS st (some (at_ : Int)) none) := by
            refine ⟨by rw [len_app, lc2, lc3]; omega, by rw [len_app, lc2, lc3]; omega, fun c hc => ?_⟩
            rw [tl_append, tl_append, tl_cutTo, tl_cutFrom] at hc
            rcases List.mem_append.mp hc with h | h
            · rcases List.mem_append.mp h with h | h
              · exact ha c (List.mem_of_mem_take h)
              · rw [show c = e by simpa using h]; exact he'
            · exact ha c (List.mem_of_mem_drop h)
          generalize (cutS st none (some (at_ : Int)) ++ ⟨#[e]⟩) ++ cutS st (some (at_ : Int)) none = t at nm ⊢
          refine ⟨_, W5.get 0 rfl, size_ok (by rw [List.length_map]; omega), l ++ [t], by rw [List.length_append, hl]; rfl, fun s hs => ?_, ?_⟩
          · rcases List.mem_append.mp hs with h | h
            · exact hl2 s h
            · rw [List.mem_singleton.mp h]; exact nm
          · rw [List.map_append]
            exact W5.set 0 rfl
        · rintro H16 ⟨l2, hl2', hm2, W16⟩
          have hl2' : l2.length = many := hl2'
          walk_at "rd"
          refine ⟨⟨_, W16.sq 0 rfl⟩, fun D3 hD3 => ?_⟩
          refine lc_li (K := K) (a := D2) (xs := l2.map V.str) (fun pre H' => ∃ l3 : List Str, l3.length = pre.length ∧ Uss l3 ∧ Ow H [b] H' [(D3, .lst (l3.map V.str)), (D2, .lst (l2.map V.str)), (b, bagO x14 y14 z14)]) ⟨[], rfl, fun _ h => by simp at h, W16.new hD3⟩ (fun pre post H' _ ⟨_, _, _, W⟩ => W.sq 1 rfl) ?_ ?_
          · rintro pre x post H17 ex ⟨l3, hl3, us3, W17⟩
            obtain ⟨s, hs, rfl⟩ : ∃ s, s ∈ l2 ∧ x = V.str s := by
              have : x ∈ l2.map V.str := by rw [ex]; simp
              obtain ⟨s, h1, h2⟩ := List.mem_map.mp this
              exact ⟨s, h1, h2.symm⟩
            have nm := hm2 s hs
            have lp : pre.length < 6 := by
              have := congrArg List.length ex
              rw [List.length_map, hl2', List.length_append, List.length_cons] at this
              omega
            walk_at "rd"
            rename_i p18 H18 np18 sp18 kp18 hp18 W18
            refine .inr ⟨_, rfl, ?_⟩
            obtain ⟨t, ut, hat⟩ : ∃ t, Us t ∧ atI [V.str s, V.str (Str.ofString "rooter")] (if decide (V.str s = V.str (Str.ofString "root")) = true then 1 else 0) = some (.str t) := by
              by_cases c : s = Str.ofString "root"
              · exact ⟨Str.ofString "rooter", us_of (by decide +kernel), by rw [if_pos (decide_eq_true (by rw [c]))]; rfl⟩
              · exact ⟨s, ⟨nm, c⟩, by rw [if_neg (by rw [decide_eq_true_eq]; exact fun e => c (V.str.inj e))]; rfl⟩
            refine ⟨_, _, _, _, rfl, rfl, W18.sq 0 rfl, hat, ?_⟩
            refine ⟨_, W18.get 1 rfl, size_ok (by rw [List.length_map]; omega), l3 ++ [t], by rw [List.length_append, List.length_append, hl3]; rfl, fun u hu => ?_, ?_⟩
            · rcases List.mem_append.mp hu with h | h
              · exact us3 u h
              · rw [List.mem_singleton.mp h]; exact ut
            · rw [List.map_append]
              exact (W18.set 1 rfl).tail
          · rintro H17 ⟨l3, hl3, us3, W17⟩
            rw [List.length_map, hl2'] at hl3
            exact q l3 D3 _ _ _ _ us3 hl3 (ok14.mono (by omega)) W17.keep (W17.get 2 rfl) (W17.fresh (by simp)) (W17.get 0 rfl)
end
end K26
namespace K26
open PySem PySem.Spec PyProof.Rows L2 FR TL
open C8 (pss_cut pe_gc)
theorem Ow.startL {H : Hp} {L : List (Addr × HO)} (h : ∀ p ∈ L, H p.1 = some p.2) (nd : (L.map (·.1)).Nodup) : Ow H (L.map (·.1)) H L :=
  ⟨fun _ _ h _ => h, h, nd, fun p hp => .inr (List.mem_map_of_mem hp)⟩
theorem erase_map (f : Str → V) (l : List Str) (i : Nat) : (l.map f).eraseIdx i = (l.eraseIdx i).map f := by
  rw [List.eraseIdx_eq_take_drop_succ, List.eraseIdx_eq_take_drop_succ, List.map_append, List.map_take, List.map_drop]
theorem erase_perm {l : List Str} {i : Nat} (h : i < l.length) : (l[i] :: l.eraseIdx i).Perm l := by
  rw [List.eraseIdx_eq_take_drop_succ]
  refine List.perm_middle.symm.trans ?_
  rw [← List.drop_eq_getElem_cons h, List.take_append_drop]
def putE (es : Es) (q : Addr) (u : Str) (xs : List Str) : Es :=
  if (es.any fun e => decide (e.2.1 = u)) = true then es.map (fun e => if e.2.1 = u then (q, u, xs) else e) else es ++ [(q, u, xs)]
theorem putE_d (es : Es) (q : Addr) (u : Str) (xs : List Str) : putK (dEs es) (Sum.inr u) (.ref q) = dEs (putE es q u xs) := by
  have any : ((dEs es).any fun kv => decide (kv.1 = Sum.inr u)) = es.any fun e => decide (e.2.1 = u) := by
    unfold dEs
    rw [List.any_map]
    congr 1
    funext e
    by_cases c : e.2.1 = u
    · simp [c]
    · simp [c]
  unfold putK putE
  rw [any]
  split
  · unfold dEs
    rw [List.map_map, List.map_map]
    refine List.map_congr_left fun e _ => ?_
    by_cases c : e.2.1 = u
    · simp [c]
    · simp [c]
  · unfold dEs
    rw [List.map_append]
    rfl
theorem putE_mem {es : Es} {q : Addr} {u : Str} {xs : List Str} {e : Addr × Str × List Str} (h : e ∈ putE es q u xs) : e ∈ es ∨ e = (q, u, xs) := by
  unfold putE at h
  split at h
  · obtain ⟨e', h1, rfl⟩ := List.mem_map.mp h
    split
    · exact .inr rfl
    · exact .inl h1
  · rcases List.mem_append.mp h with h | h
    · exact .inl h
    · exact .inr (List.mem_singleton.mp h)
theorem putE_keys {es : Es} {q : Addr} {u : Str} {xs : List Str} (nd : (es.map (·.2.1)).Nodup) : ((putE es q u xs).map (·.2.1)).Nodup := by
  unfold putE
  split
  · rw [List.map_map]
    rw [show es.map ((fun x => x.2.1) ∘ fun e => if e.2.1 = u then (q, u, xs) else e) = es.map (·.2.1) from List.map_congr_left fun e _ => by
      by_cases c : e.2.1 = u
      · simp [c]
      · simp [c]]
    exact nd
  · rename_i c
    rw [List.map_append, List.nodup_append]
    refine ⟨nd, by simp, fun a ha b hb => ?_⟩
    obtain ⟨e, he, rfl⟩ := List.mem_map.mp ha
    obtain rfl : b = u := by simpa using hb
    intro z
    exact c (List.any_eq_true.mpr ⟨e, he, decide_eq_true z⟩)
theorem putE_len {es : Es} {q : Addr} {u : Str} {xs : List Str} : 1 ≤ (putE es q u xs).length ∧ (putE es q u xs).length ≤ es.length + 1 := by
  unfold putE
  split
  · rename_i c
    obtain ⟨e, he, _⟩ := List.any_eq_true.mp c
    rw [List.length_map]
    have := List.length_pos_of_mem he
    omega
  · rw [List.length_append, List.length_singleton]
    omega
structure LM (H0 H : Hp) (b d pu pg : Addr) (us gl : List Str) (es : Es) (x y z : Int) : Prop where
  fd : H0 d = none
  kp : Keep [b] H0 H
  hb : H b = some (bagO x y z)
  hd : H d = some (.dK (dEs es))
  hu : H pu = some (.lst (us.map V.str))
  hg : H pg = some (.lst (gl.map V.str))
  hl : ∀ e ∈ es, H e.1 = some (.lst (e.2.2.map V.str))
  kn : (es.map (·.2.1)).Nodup
  ku : ∀ e ∈ es, Us e.2.1
  kg : ∀ e ∈ es, (∀ g ∈ e.2.2, g ∈ gl) ∧ e.2.2.Nodup ∧ 1 ≤ e.2.2.length
theorem bag_ne {x y z : Int} {xs : List Str} : bagO x y z ≠ .lst (xs.map V.str) := fun h => by
  unfold bagO at h
  injection h with h
  cases xs with
  | nil => cases h
  | cons s r =>
    rw [List.map_cons] at h
    injection h with h _
    cases h
section
variable {P : Program} {w : World} {K : PySem.W.Frag} {mg : Str → Option Value} {base : Heap} {A : Ads}
set_option pp.maxSteps 120
def spMembers : Sp := fun vs H Q _ => ∃ (b : Addr) (n : Nat) (x y z : Int), vs = [.ref b] ∧ H b = some (bagO x y z) ∧ BagOk n x y z ∧ n < 800000 ∧
  ∀ (es : Es) (a : Addr) (x' y' z' : Int) (H' : Hp), Mk (mEs es) → BagOk (n + 150) x' y' z' → Keep [b] H H' → H' b = some (bagO x' y' z') → ML H' a es → Q (.ref a) H'
theorem ok_members (T : Txt w K mg A) : FnOk P w K mg base CX0 3 A.f_members A.d_members ["_law_bag_here"] spMembers := by
  refine T.F_members.ok sc_members (fun vs H Q E h => ?_) (fun cdv A_ outer s_ H vs Q E hr h => ?_)
  · obtain ⟨b, n, x, y, z, rfl, _⟩ := h
    rfl
  · obtain ⟨b, n, x, y, z, rfl, hb, ok, hn, q⟩ := h
    have W := Ow.start1 hb
    refine ⟨_, (pss_cons (ps_set (i := 1) sc_members.nd rfl (.inl rfl) (pe_call (ok_names T) (hr.mono (by decide)) (by rfl) T.g_names T.F_names.kp T.B_names .nil pass0 (pa_cons (pv 0) (pa_cons (pe_op op_add pe_int (pe_call (ok_take T) (hr.mono (by decide)) (by rfl) T.g_take T.F_take.kp T.B_take .nil pass0 (pa_cons (pv 0) (pa_cons pe_int pa_nil)))) pa_nil))))
  (pss_cons (ps_set (i := 2) sc_members.nd rfl (.inl rfl) (pe_lstS pa_nil))
  (pss_cons (ps_for PassesOwn.never rfl (pi_list (pe_op op_catN (pe_op op_rep (pv 1) (pe_callTy call_int1 (by rfl) T.b_int (by decide +kernel) (pa_cons (pe_cmpR op_eq (pe_call (ok_take T) (hr.mono (by decide)) (by rfl) T.g_take T.F_take.kp T.B_take .nil pass0 (pa_cons (pv 0) (pa_cons pe_int pa_nil))) pe_int (nomark _)) pa_nil))) (pe_call (ok_names T) (hr.mono (by decide)) (by rfl) T.g_names T.F_names.kp T.B_names .nil pass0 (pa_cons (pv 0) (pa_cons pe_int pa_nil))))) (pg_name (i := 3) sc_members.nd rfl (.inl rfl)) (pss_one (ps_if (pt_cmpR op_notIn_seq (pv 3) (pv 2) rfl) (pss_one (ps_expr (pe_bm PySem.F.plainAttrs_list PySem.F.slot_list_append PySem.F.type_list_append mt_appN (pv 2) (pa_cons (pv 3) pa_nil)))) pss_nil)))
  (pss_cons (ps_set (i := 2) sc_members.nd rfl (.inl rfl) (pe_slice sl_listN (pv 2) po_none (po_some (pe_op op_add pe_int (pe_call (ok_take T) (hr.mono (by decide)) (by rfl) T.g_take T.F_take.kp T.B_take .nil pass0 (pa_cons (pv 0) (pa_cons pe_int pa_nil)))))))
  (pss_cons (ps_set (i := 4) sc_members.nd rfl (.inl rfl) pe_dnewN)
  (pss_cons (ps_for PassesOwn.never rfl (pi_list (pv 1)) (pg_name (i := 5) sc_members.nd rfl (.inl rfl)) (pss_cons (ps_set (i := 6) sc_members.nd rfl (.inl rfl) (pe_callTy call_lofN (by rfl) T.b_list (by decide +kernel) (pa_cons (pv 2) pa_nil)))
  (pss_cons (ps_set (i := 7) sc_members.nd rfl (.inl rfl) (pe_lstS pa_nil))
  (pss_cons (ps_for PassesOwn.never rfl (pi_range1 (by rfl) T.b_range (pa_cons (pe_op op_add pe_int (pe_call (ok_take T) (hr.mono (by decide)) (by rfl) T.g_take T.F_take.kp T.B_take .nil pass0 (pa_cons (pv 0) (pa_cons (pe_callB call_len_seq (by rfl) T.b_len PySem.boot_len (pa_cons (pv 2) pa_nil)) pa_nil)))) pa_nil)) (pg_name (i := 8) sc_members.nd rfl (.inl rfl)) (pss_one (ps_expr (pe_bm PySem.F.plainAttrs_list PySem.F.slot_list_append PySem.F.type_list_append mt_appN (pv 7) (pa_cons (pe_bm PySem.F.plainAttrs_list PySem.F.slot_list_pop PySem.F.type_list_pop mt_popAt (pv 6) (pa_cons (pe_call (ok_take T) (hr.mono (by decide)) (by rfl) T.g_take T.F_take.kp T.B_take .nil pass0 (pa_cons (pv 0) (pa_cons (pe_callB call_len_seq (by rfl) T.b_len PySem.boot_len (pa_cons (pv 6) pa_nil)) pa_nil))) pa_nil)) pa_nil)))))
  (pss_one (ps_asg (pv 7) (pg_sub (pv 4) (pv 5) (set_dict (hu_of hr)))))))))
  (pss_one (ps_ret (pv 4))))))))), ?_⟩
    walk_at "rd"
    walk_at "take"
    rename_i d2 x2 y2 z2 H2 d20 d21 ok2 kp2 hb2 W2
    obtain ⟨j, rfl⟩ := Int.eq_ofNat_of_zero_le d20
    refine ⟨_, _, rfl, rfl, ?_⟩
    refine ⟨b, 1 + j, _, _, _, _, by rw [show ((1 + j : Nat) : Int) = 1 + (j : Int) by omega]; rfl, W2.get 0 rfl, ok2, by omega, by omega, by omega, fun us pu x3 y3 z3 H3 uus ul ok3 k3 hb3 nu hu => ?_⟩
    have W3 := W2.anyN 0 rfl k3 hb3 nu hu
    walk_at "rd"
    rename_i p4 H4 np4 sp4 kp4 hp4 W4
    walk_at "take"
    rename_i d5 x5 y5 z5 H5 d50 d51 ok5 kp5 hb5 W5
    walk_at "rd"
    refine .inr ⟨_, rfl, ?_⟩
    refine ⟨pu, _, _, rfl, rfl, W5.get 1 rfl, ?_, ?_, ?_, fun pr hr5 => ?_⟩
    · split <;> decide
    · split <;> decide
    · refine size_le ?_
      rw [List.length_map]
      split <;> simp <;> omega
    have W6 := W5.new (o := .lst (List.replicate (Int.toNat (if decide (V.int d5 = V.int 0) = true then 1 else 0)) (us.map V.str)).flatten) hr5
    obtain ⟨rs, ers, urs, lrs⟩ : ∃ rs : List Str, (List.replicate (Int.toNat (if decide (V.int d5 = V.int 0) = true then 1 else 0)) (us.map V.str)).flatten = rs.map V.str ∧ Uss rs ∧ rs.length ≤ 6 := by
      split
      · exact ⟨us, by simp, uus, by omega⟩
      · exact ⟨[], by simp, fun _ h => by simp at h, by simp⟩
    rw [ers] at W6 ⊢
    clear W5 W4 W3 W2 W
    refine ⟨_, rfl, b, 6, n + 22, _, _, _, rfl, W6.get 3 rfl, ok5, by omega, by omega, by omega, fun ns p7 x7 y7 z7 H7 uns nl ok7 k7 hb7 np7 h7 => ?_⟩
    have W7 := W6.anyN 3 rfl k7 hb7 np7 h7
    refine ⟨pr, p7, _, _, rfl, rfl, W7.get 1 rfl, W7.get 0 rfl, size_le (by rw [List.length_map, List.length_map]; omega), NewO.mk fun pc H8 n8 k8 h8 => ?_⟩
    rw [← List.map_append] at h8
    have W8 := (W7.res (W7.call0 k8) n8 h8).sel (L' := [(pc, .lst ((rs ++ ns).map V.str)), (p4, .lst []), (pu, .lst (us.map V.str)), (b, bagO x7 y7 z7)]) (.cons₂ _ (.cons _ (.cons _ (.cons₂ _ (.cons₂ _ (.cons₂ _ .slnil))))))
    clear W7 W6
    have lall : (rs ++ ns).length ≤ 12 := by rw [List.length_append]; omega
    have nall : rs ++ ns ≠ [] := fun e => by
      have := congrArg List.length e
      rw [List.length_append, nl] at this
      simp at this
    have uall : Uss (rs ++ ns) := fun s hs => (List.mem_append.mp hs).elim (urs s) (uns s)
    generalize rs ++ ns = al at h8 W8 lall nall uall
    refine ⟨pc, rfl, ⟨_, W8.sq 0 rfl⟩, ?_⟩
    refine for_li (K := K) (a := pc) (xs := al.map V.str) (fun pre σ H' => ∃ gl y3, σ = [some (.ref b), some (.ref pu), some (.ref p4), y3, none, none, none, none, none] ∧ gl.length ≤ pre.length ∧ gl.Nodup ∧ Uss gl ∧ (pre ≠ [] → gl ≠ []) ∧ Ow H [b] H' [(pc, .lst (al.map V.str)), (p4, .lst (gl.map V.str)), (pu, .lst (us.map V.str)), (b, bagO x7 y7 z7)]) ⟨[], none, rfl, by simp, by simp, fun _ h => by simp at h, fun h => absurd rfl h, W8⟩ (fun pre post σ H' _ h => ?_) ?_ ?_
    · obtain ⟨gl, y3, _, _, _, _, _, W9⟩ := h
      exact W9.sq 0 rfl
    · rintro pre v post σ H9 ex ⟨gl, y3, rfl, hgl, ndg, ug, nn, W9⟩
      obtain ⟨s, hs, rfl⟩ : ∃ s, s ∈ al ∧ v = V.str s := by
        have : v ∈ al.map V.str := by rw [ex]; simp
        obtain ⟨s, h1, h2⟩ := List.mem_map.mp this
        exact ⟨s, h1, h2.symm⟩
      have lp : pre.length < 12 := by
        have := congrArg List.length ex
        rw [List.length_map, List.length_append, List.length_cons] at this
        omega
      refine ⟨_, rfl, _, rfl, p4, _, rfl, .inl (W9.sq 1 rfl), rfl, FR.flat_strs _, _, rfl, ?_⟩
      show if (!inV (V.str s) (gl.map V.str)) = true then _ else _
      rw [in_strs]
      refine ifN (fun c => ?_) (fun c => ?_)
      · walk_at "rd"
        rename_i H10 kp10 hp10 W10
        refine ⟨gl ++ [s], _, rfl, by rw [List.length_append, List.length_append]; simp; omega, List.nodup_append.mpr ⟨ndg, by simp, fun a ha b' hb' e => c (by have hb2 : b' = s := List.mem_singleton.mp hb'; rw [← hb2, ← e]; exact ha)⟩, fun t ht => ?_, fun _ => by simp, ?_⟩
        · rcases List.mem_append.mp ht with h | h
          · exact ug t h
          · rw [List.mem_singleton.mp h]; exact uall s hs
        · rw [List.map_append]
          exact W10
      · exact ⟨gl, _, rfl, by rw [List.length_append]; omega, ndg, ug, fun _ e => by rw [e] at c; simp at c, W9⟩
    · rintro σ H9 ⟨gl, y3, rfl, hgl, ndg, ug, nn, W9⟩
      rw [List.length_map] at hgl
      have gne : gl ≠ [] := nn fun e => nall (List.map_eq_nil_iff.mp e)
      clear nn W8
      walk_at "rd"
      walk_at "take"
      rename_i d10 x10 y10 z10 H10 d100 d101 ok10 kp10 hb10 W10
      obtain ⟨k, rfl⟩ := Int.eq_ofNat_of_zero_le d100
      refine ⟨_, _, rfl, rfl, _, rfl, ?_⟩
      refine ⟨p4, _, rfl, W10.sq 1 rfl, NewO.mk fun pg H11 n11 k11 h11 => ?_⟩
      rw [show (1 : Int) + (k : Int) = ((1 + k : Nat) : Int) by omega, cutV_to, ← List.map_take] at h11
      have W11 := (W10.res (W10.call0 k11) n11 h11).sel (L' := [(pg, _), (pu, .lst (us.map V.str)), (b, bagO x10 y10 z10)]) (.cons₂ _ (.cons _ (.cons _ (.cons₂ _ (.cons₂ _ .slnil)))))
      have ndg2 : (gl.take (1 + k)).Nodup := ndg.sublist (List.take_sublist _ _)
      have ug2 : Uss (gl.take (1 + k)) := fun s hs => ug s (List.mem_of_mem_take hs)
      have lg2 : 1 ≤ (gl.take (1 + k)).length ∧ (gl.take (1 + k)).length ≤ 6 := by
        have := List.length_pos_iff.mpr gne
        rw [List.length_take]
        omega
      generalize gl.take (1 + k) = g2 at h11 W11 ndg2 ug2 lg2
      clear W10 W9 ndg ug gne hgl
      walk_at "rd"
      rename_i pd H12 n12 k12 h12 W12
      have L0 : LM H H12 b pd pu pg us g2 [] x10 y10 z10 := ⟨W12.fresh (by simp), W12.keep, W12.get 3 rfl, h12, W12.get 2 rfl, W12.get 1 rfl, fun _ h => by simp at h, by simp, fun _ h => by simp at h, fun _ h => by simp at h⟩
      have ok12 : BagOk (n + 43) x10 y10 z10 := ok10.mono (by omega)
      clear W12 W11 ok10 n12 k12 h12 n11 k11 h11
      refine ⟨⟨_, .inl (.inl L0.hu)⟩, ?_⟩
      refine for_li (K := K) (a := pu) (xs := us.map V.str) (fun pre σ H' => ∃ es x y z y5 y6 y7 y8, σ = [some (.ref b), some (.ref pu), some (.ref pg), y3, some (.ref pd), y5, y6, y7, y8] ∧ es.length ≤ pre.length ∧ (pre ≠ [] → es ≠ []) ∧ BagOk (n + 43 + 7 * pre.length) x y z ∧ LM H H' b pd pu pg us g2 es x y z) ⟨[], _, _, _, _, _, _, _, rfl, by simp, fun h => absurd rfl h, ok12, L0⟩ (fun pre post σ H' _ h => ?_) ?_ ?_
      · obtain ⟨es, _, _, _, _, _, _, _, _, _, _, _, h⟩ := h
        exact .inl (.inl h.hu)
      · rintro pre v post σ Hi ex ⟨es, xi, yi, zi, y5, y6, y7, y8, rfl, les, nes, oki, L⟩
        obtain ⟨s, hs, rfl⟩ : ∃ s, s ∈ us ∧ v = V.str s := by
          have : v ∈ us.map V.str := by rw [ex]; simp
          obtain ⟨s, h1, h2⟩ := List.mem_map.mp this
          exact ⟨s, h1, h2.symm⟩
        have lp : pre.length < 6 := by
          have := congrArg List.length ex
          rw [List.length_map, List.length_append, List.length_cons] at this
          omega
        have nbd : b ≠ pd := ne_of L.hb L.hd (fun z => by cases z)
        have npg : pg ∉ [b, pd] := by
          simp only [List.mem_cons, List.not_mem_nil, or_false, not_or]
          exact ⟨ne_of L.hg L.hb (Ne.symm bag_ne), ne_of L.hg L.hd (fun z => by cases z)⟩
        have Wi : Ow Hi [b, pd] Hi [(b, bagO xi yi zi), (pd, .dK (dEs es))] := Ow.startL (L := [(b, bagO xi yi zi), (pd, .dK (dEs es))]) (fun p hp => by
          simp only [List.mem_cons, List.not_mem_nil, or_false] at hp
          rcases hp with rfl | rfl
          · exact L.hb
          · exact L.hd) (by simp [nbd])
        refine ⟨_, rfl, pg, _, rfl, .inl (.inl (.inl L.hg)), NewO.mk fun pl H13 n13 k13 h13 => ?_⟩
        have W13 := Wi.res (Wi.call0 k13) n13 h13
        walk_at "rd"
        rename_i p14 H14 n14 s14 k14 h14 W14
        refine ⟨pg, _, rfl, .inl (.inl (.inl (W14.keep _ _ L.hg npg))), ?_⟩
        refine ⟨b, _, _, _, _, _, rfl, W14.get 2 rfl, oki, by omega, by rw [List.length_map]; omega, by rw [List.length_map]; omega, fun d x15 y15 z15 H15 d0 d1 ok15 k15 hb15 => ?_⟩
        have W15 := W14.any1 2 rfl k15 hb15
        obtain ⟨m, rfl⟩ := Int.eq_ofNat_of_zero_le d0
        rw [List.length_map] at d1
        refine ⟨_, _, rfl, rfl, _, rfl, by omega, by omega, ?_⟩
        have tn : ((1 : Int) + (m : Int)).toNat = 1 + m := by omega
        refine for_rg (fun i σ H' => ∃ ls ss x y z y8, σ = [some (.ref b), some (.ref pu), some (.ref pg), y3, some (.ref pd), some (.str s), some (.ref pl), some (.ref p14), y8] ∧ (ss ++ ls).Perm g2 ∧ ss.length = i ∧ BagOk (n + 44 + 7 * pre.length + i) x y z ∧ Ow Hi [b, pd] H' [(p14, .lst (ss.map V.str)), (pl, .lst (ls.map V.str)), (b, bagO x y z), (pd, .dK (dEs es))]) ⟨g2, [], _, _, _, _, rfl, .refl _, rfl, ok15.mono (by omega), ?_⟩ ?_ ?_
        · exact W15
        · rintro i σ H16 hi ⟨ls, ss, x16, y16, z16, y8', rfl, pm, lss, ok16, W16⟩
          rw [tn] at hi
          have ll : ss.length + ls.length = g2.length := by rw [← List.length_append, pm.length_eq]
          refine ⟨_, rfl, .inl ⟨rfl, _, W16.sq 0 rfl⟩, ?_⟩
          refine ⟨_, rfl, .inl ⟨rfl, _, W16.sq 1 rfl⟩, ?_⟩
          refine ⟨_, rfl, _, rfl, pl, _, rfl, .inl (W16.sq 1 rfl), ?_⟩
          refine ⟨b, _, _, _, _, _, rfl, W16.get 2 rfl, ok16, by omega, by rw [List.length_map]; omega, by rw [List.length_map]; omega, fun d x17 y17 z17 H17 d0 d1 ok17 k17 hb17 => ?_⟩
          have W17 := W16.any1 2 rfl k17 hb17
          obtain ⟨t, rfl⟩ := Int.eq_ofNat_of_zero_le d0
          rw [List.length_map] at d1
          have tl : t < ls.length := by omega
          refine ⟨pl, _, _, t, .str ls[t], rfl, rfl, W17.get 1 rfl, by omega, by omega, ?_, by rw [List.getElem?_map, List.getElem?_eq_getElem tl]; rfl, ?_⟩
          · rw [PySem.StrLaws.seqIndex_nonneg (by omega) (by rw [List.length_map]; omega)]
            rfl
          have W18 := W17.set (o' := .lst ((ls.map V.str).eraseIdx t)) 1 rfl
          have ee : (ls.map V.str).eraseIdx t = (ls.eraseIdx t).map V.str := erase_map _ _ _
          rw [ee] at W18 ⊢
          walk_at "rd"
          rename_i H19 kp19 hp19 W19
          refine ⟨ls.eraseIdx t, ss ++ [ls[t]], _, _, _, _, rfl, ?_, by rw [List.length_append, lss]; rfl, ok17.mono (by omega), ?_⟩
          · rw [List.append_assoc]
            exact ((erase_perm tl).append_left ss).trans pm
          · rw [List.map_append]
            exact W19
        · rintro σ H16 ⟨ls, ss, x16, y16, z16, y8', rfl, pm, lss, ok16, W16⟩
          rw [tn] at lss ok16
          have ndss : ss.Nodup ∧ ∀ g ∈ ss, g ∈ g2 := by
            have := pm.nodup_iff.mpr ndg2
            exact ⟨(List.nodup_append.mp this).1, fun g hg => pm.mem_iff.mp (List.mem_append_left _ hg)⟩
          refine ⟨_, rfl, _, rfl, _, rfl, ?_⟩
          refine ⟨pd, _, rfl, .inl ⟨dEs es, Sum.inr s, W16.get 3 rfl, rfl, size_ok (by rw [dEs_len]; omega), rfl⟩, ?_⟩
          rw [putE_d]
          have W20 := W16.set (o' := .dK (dEs (putE es p14 s ss))) 3 rfl
          have far : ∀ a, a ≠ b → a ≠ pd → ∀ o, Hi a = some o → upd H16 pd (.dK (dEs (putE es p14 s ss))) a = some o := fun a n1 n2 o ho => W20.keep a o ho (by simp [n1, n2])
          refine ⟨putE es p14 s ss, _, _, _, _, _, _, _, rfl, ?_, fun _ e => ?_, ok16.mono (by rw [List.length_append, List.length_singleton]; omega), ?_⟩
          · rw [List.length_append, List.length_singleton]
            have := (putE_len (es := es) (q := p14) (u := s) (xs := ss)).2
            omega
          · have := (putE_len (es := es) (q := p14) (u := s) (xs := ss)).1
            rw [e] at this
            simp at this
          · have nub : pu ≠ b := ne_of L.hu L.hb (Ne.symm bag_ne)
            have nud : pu ≠ pd := ne_of L.hu L.hd (fun z => by cases z)
            simp only [List.mem_cons, List.not_mem_nil, or_false, not_or] at npg
            refine ⟨L.fd, fun a o ha na => ?_, W20.get 2 rfl, W20.get 3 rfl, far pu nub nud _ L.hu, far pg npg.1 npg.2 _ L.hg, fun e he => ?_, putE_keys L.kn, fun e he => ?_, fun e he => ?_⟩
            · have h1 := L.kp a o ha na
              exact far a (by simpa using na) (fun e => by rw [e, L.fd] at ha; cases ha) o h1
            · rcases putE_mem he with he | rfl
              · have h1 := L.hl e he
                exact far e.1 (ne_of h1 L.hb (Ne.symm bag_ne)) (ne_of h1 L.hd (fun z => by cases z)) _ h1
              · exact W20.get 0 rfl
            · rcases putE_mem he with he | rfl
              · exact L.ku e he
              · exact uus s hs
            · rcases putE_mem he with he | rfl
              · exact L.kg e he
              · exact ⟨ndss.2, ndss.1, by show 1 ≤ ss.length; omega⟩
      · rintro σ H9 ⟨es, xi, yi, zi, y5, y6, y7, y8, rfl, les, nes, oki, L⟩
        rw [List.length_map] at les oki
        walk_at "rd"
        have esne : es ≠ [] := nes fun e => by
          have := congrArg List.length e
          rw [List.length_map] at this
          simp only [List.length_nil] at this
          omega
        have gl6 : ∀ e ∈ es, e.2.2.length ≤ 6 := fun e he => Nat.le_trans ((L.kg e he).2.1.length_le_of_subset (L.kg e he).1) lg2.2
        refine q es pd xi yi zi H9 ⟨?_, fun e he => ?_, fun e he => ?_, ?_, ?_, ⟨g2, lg2.2, fun e he g hg => ?_⟩⟩ (oki.mono (by omega)) L.kp L.hb ⟨L.hd, L.hl⟩
        · unfold mEs
          rw [List.map_map]
          exact L.kn
        · obtain ⟨e', he', rfl⟩ := List.mem_map.mp he
          exact L.ku e' he'
        · obtain ⟨e', he', rfl⟩ := List.mem_map.mp he
          have k := L.kg e' he'
          exact ⟨fun g hg => ug2 g (k.1 g hg), k.2.1, k.2.2, gl6 e' he'⟩
        · rw [mEs_len]
          exact List.length_pos_iff.mpr esne
        · rw [mEs_len]
          omega
        · obtain ⟨e', he', rfl⟩ := List.mem_map.mp he
          exact (L.kg e' he').1 g hg
end
end K26
namespace K26
open PySem PySem.Spec PyProof.Rows L2 FR TL
open C8 (pss_cut pe_gc)
open StX (pe_callS2 pa_star)
section
variable {P : Program} {w : World} {K : PySem.W.Frag} {mg : Str → Option Value} {base : Heap} {A : Ads}
set_option pp.maxSteps 120
/-- the letters of a digit -/
def lw (d : Int) : Str := if d = 0 then "" else if d = 1 then "x" else if d = 2 then "w" else if d = 3 then "wx" else if d = 4 then "r" else if d = 5 then "rx" else if d = 6 then "rw" else "rwx"
def bv (k : Str) : Int := if k = "r" then 4 else if k = "w" then 2 else 1
def bit (d : Int) (k : Str) : Bool := Builtin.bitAnd d (bv k) != 0
def keysL : List Str := ["r", "w", "x"]
theorem eight {F : Int → Prop} (h : F 0 ∧ F 1 ∧ F 2 ∧ F 3 ∧ F 4 ∧ F 5 ∧ F 6 ∧ F 7) {d : Int} (d0 : 0 ≤ d) (d1 : d ≤ 7) : F d := by
  have : d = 0 ∨ d = 1 ∨ d = 2 ∨ d = 3 ∨ d = 4 ∨ d = 5 ∨ d = 6 ∨ d = 7 := by omega
  obtain ⟨a0, a1, a2, a3, a4, a5, a6, a7⟩ := h
  rcases this with rfl | rfl | rfl | rfl | rfl | rfl | rfl | rfl <;> assumption
/-- the texts of unlike letters, with their digits -/
def goodT : List (Str × Int) := [("", 0), ("x", 1), ("w", 2), ("wx", 3), ("xw", 3), ("r", 4), ("rx", 5), ("xr", 5), ("rw", 6), ("wr", 6), ("rwx", 7), ("rxw", 7), ("wrx", 7), ("wxr", 7), ("xrw", 7), ("xwr", 7)]
theorem dg_at (T : Txt w K mg A) {t : Str} {d : Int} (h : (t, d) ∈ goodT) : KDct K w A.K_DIGITS t (.int d) := by
  simp only [goodT, List.mem_cons, List.not_mem_nil, or_false, Prod.mk.injEq] at h
  rcases h with ⟨rfl, rfl⟩ | ⟨rfl, rfl⟩ | ⟨rfl, rfl⟩ | ⟨rfl, rfl⟩ | ⟨rfl, rfl⟩ | ⟨rfl, rfl⟩ | ⟨rfl, rfl⟩ | ⟨rfl, rfl⟩ | ⟨rfl, rfl⟩ | ⟨rfl, rfl⟩ | ⟨rfl, rfl⟩ | ⟨rfl, rfl⟩ | ⟨rfl, rfl⟩ | ⟨rfl, rfl⟩ | ⟨rfl, rfl⟩ | ⟨rfl, rfl⟩
  · exact T.at_DIGITS_
  · exact T.at_DIGITS_x
  · exact T.at_DIGITS_w
  · exact T.at_DIGITS_wx
  · exact T.at_DIGITS_xw
  · exact T.at_DIGITS_r
  · exact T.at_DIGITS_rx
  · exact T.at_DIGITS_xr
  · exact T.at_DIGITS_rw
  · exact T.at_DIGITS_wr
  · exact T.at_DIGITS_rwx
  · exact T.at_DIGITS_rxw
  · exact T.at_DIGITS_wrx
  · exact T.at_DIGITS_wxr
  · exact T.at_DIGITS_xrw
  · exact T.at_DIGITS_xwr
theorem dg_in (T : Txt w K mg A) {t : Str} {d : Int} (h : (t, d) ∈ goodT) : ∃ u, PySem.W.nsIn K A.K_DIGITS t = some (some u) := by
  obtain ⟨_, _, u, _, _, hu, _⟩ := dg_at T h
  exact ⟨u, hu⟩
def wordsL : List V := [.str "", .str "x", .str "w", .str "wx", .str "r", .str "rx", .str "rw", .str "rwx"]
theorem wd_at {d : Int} (d0 : 0 ≤ d) (d1 : d ≤ 7) : atI wordsL d = some (.str (lw d)) := by
  have : d = 0 ∨ d = 1 ∨ d = 2 ∨ d = 3 ∨ d = 4 ∨ d = 5 ∨ d = 6 ∨ d = 7 := by omega
  rcases this with rfl | rfl | rfl | rfl | rfl | rfl | rfl | rfl <;> rfl
theorem wd_sq (T : Txt w K mg A) (H : Hp) : SqT K H A.K_WORDS wordsL := .inr T.tu_WORDS
theorem lw_good {d : Int} (d0 : 0 ≤ d) (d1 : d ≤ 7) : (lw d, d) ∈ goodT := eight (F := fun d => (lw d, d) ∈ goodT) (by decide +kernel) d0 d1
theorem good_in {t : Str} {d : Int} (h : (t, d) ∈ goodT) : 0 ≤ d ∧ d ≤ 7 := by
  have : goodT.all (fun p => decide (0 ≤ p.2) && decide (p.2 ≤ 7)) = true := by decide +kernel
  simpa using List.all_eq_true.mp this _ h
/-- a rights object of this digit -/
def RgO (A : Ads) (dx : Addr) (d : Int) : HO := .ins A.C_Rights dx [("_digit", .int d)]
def IsR (A : Ads) (H : Hp) (v : V) (d : Int) : Prop := ∃ a dx, v = .ref a ∧ H a = some (RgO A dx d) ∧ 0 ≤ d ∧ d ≤ 7
def spDig (A : Ads) : Sp := fun vs H Q _ => ∃ v d, vs = [v] ∧ IsR A H v d ∧ Q (.int d) H
theorem ok_Rights_digit (T : Txt w K mg A) : FnOk P w K mg base CX0 1 A.f_Rights_digit A.d_Rights_digit ["self"] (spDig A) := by
  refine T.F_Rights_digit.ok sc_Rights_digit (fun vs H Q E h => ?_) (fun cdv A_ outer s H vs Q E hr h => ?_)
  · obtain ⟨v, d, rfl, _⟩ := h
    rfl
  · obtain ⟨_, d, rfl, ⟨a, dx, rfl, ha, d0, d1⟩, q⟩ := h
    refine ⟨_, (pss_one (ps_ret (pe_fld (pv 0) rfl))), ?_⟩
    exact ⟨_, rfl, a, _, dx, _, _, rfl, ha, T.cl_Rights, T.na_Rights__digit, rfl, q⟩
theorem ok__digit_of (T : Txt w K mg A) : FnOk P w K mg base CX0 3 A.f__digit_of A.d__digit_of ["value"] (spDig A) := by
  refine T.F__digit_of.ok sc__digit_of (fun vs H Q E h => ?_) (fun cdv A_ outer s H vs Q E hr h => ?_)
  · obtain ⟨v, d, rfl, _⟩ := h
    rfl
  · obtain ⟨_, d, rfl, ⟨a, dx, rfl, ha, d0, d1⟩, q⟩ := h
    refine ⟨_, (pss_cons (ps_if (pt_not (pt_val (pe_callB (C8.call_isC T.in_Rights) (by rfl) T.b_isinstance (by decide +kernel) (pa_cons (pv 0) (pa_cons (pe_gc rfl T.c_Rights) pa_nil))))) (pss_one ps_never) pss_nil)
  (pss_one (ps_ret (pe_prop (pv 0) T.cl_Rights T.pr_Rights_digit (ok_Rights_digit T) (hr.mono (by decide)) T.B_Rights_digit .nil pass0 rfl)))), ?_⟩
    walk_at "rd"
    refine ⟨a, dx, _, rfl, ha, _, rfl, ?_⟩
    refine ifF rfl ?_
    exact ⟨_, rfl, a, dx, _, rfl, ha, _, d, rfl, ⟨a, dx, rfl, ha, d0, d1⟩, q⟩
theorem ok__is_letters (T : Txt w K mg A) : FnOk P w K mg base CX0 1 A.f__is_letters A.d__is_letters ["value"] (fun vs H Q _ => ∃ t d, vs = [.str t] ∧ (t, d) ∈ goodT ∧ Q (.bl true) H) := by
  refine T.F__is_letters.ok sc__is_letters (fun vs H Q E h => ?_) (fun cdv A_ outer s H vs Q E hr h => ?_)
  · obtain ⟨t, d, rfl, _⟩ := h
    rfl
  · obtain ⟨t, d, rfl, g, q⟩ := h
    refine ⟨_, (pss_one (ps_ret (pe_and (pe_callB call_isi (by rfl) T.b_isinstance (by decide +kernel) (pa_cons (pv 0) (pa_cons (pe_bltn (v := .ty "str") rfl T.b_str (by decide +kernel) rfl) pa_nil))) (pe_one (pe_cmpR (op_inW (K := K) (w := w) rfl rfl T.kd_DIGITS) (pv 0) (pe_gc rfl T.c_DIGITS) rfl))))), ?_⟩
    walk_at "rd"
    obtain ⟨u, hu⟩ := dg_in T g
    exact ⟨_, _, rfl, rfl, hu, q⟩
def spInitR (A : Ads) : Sp := fun vs H Q _ => ∃ x dx t d, vs = [.ref x, .str t] ∧ H x = some (.ins A.C_Rights dx []) ∧ (t, d) ∈ goodT ∧ ∀ H1, Keep [x] H H1 → H1 x = some (RgO A dx d) → Q .non H1
theorem ok_Rights___init__ (T : Txt w K mg A) : FnOk P w K mg base CX0 2 A.f_Rights___init__ A.d_Rights___init__ ["self", "letters"] (spInitR A) := by
  refine (T.F_Rights___init__.ok (CX := CX0) sc_Rights___init__ (fun vs H Q E h => ?_) (fun cdv A_ outer s H vs Q E hr h => ?_))
  · obtain ⟨x, dx, t, d, rfl, _⟩ := h
    rfl
  · obtain ⟨x, dx, t, d, rfl, hx, g, q⟩ := h
    refine ⟨_, (pss_cons (ps_if (pt_not (pt_val (pe_call (ok__is_letters T) (hr.mono (by decide)) (by rfl) T.g__is_letters T.F__is_letters.kp T.B__is_letters .nil pass0 (pa_cons (pv 1) pa_nil)))) (pss_one ps_never) pss_nil)
  (pss_one (ps_fld (pv 0) (pe_ix (ix_kdictK (K := K) (w := w) rfl rfl) (pe_gc rfl T.c_DIGITS) (pv 1) (fun _ _ => rfl)) rfl))), ?_⟩
    walk_at "rd"
    refine ⟨t, d, rfl, g, ?_⟩
    walk_at "rd"
    refine ⟨_, _, _, rfl, rfl, dg_at T g, ?_⟩
    refine ⟨_, rfl, x, _, dx, _, rfl, hx, T.cl_Rights, T.na_Rights__digit, by decide, ?_⟩
    exact q _ keep_upd upd_same
theorem bd_Rights___init___1 (T : Txt w K mg A) : Vals [] [] ∧ Binds K A.d_Rights___init__ ["self", "letters"] [] := by
  obtain ⟨ds, h1, h2⟩ := T.F_Rights___init__.binds1 (ps := ["self", "letters"]) 2 1 (by simp) rfl fun Tt kV doc pm an cdv ct us its h1 h2 => match us, its, h1, h2 with
    | [_, _], [_], _, _ => ⟨_, rfl, rfl⟩
  cases h1
  exact ⟨.nil, h2⟩
theorem bd_Rights___init___0 (T : Txt w K mg A) : ∃ ds, Vals [.str ""] ds ∧ Binds K A.d_Rights___init__ ["self", "letters"] ds := by
  obtain ⟨ds, h1, h2⟩ := T.F_Rights___init__.binds1 (ps := ["self", "letters"]) 1 0 (by simp) rfl fun Tt kV doc pm an cdv ct us its h1 h2 => match us, its, h1, h2 with
    | [_], [_], _, _ => ⟨_, rfl, rfl⟩
  exact ⟨ds, h1, h2⟩
/-- a new rights object of this digit -/
def NewR (A : Ads) (d : Int) (Q : VK) (H : Hp) : Prop := ∀ (x dx : Addr) (H1 : Hp), H x = none → H dx = none → Keep [] H H1 → H1 x = some (RgO A dx d) → Q (.ref x) H1
def spBin (A : Ads) (f : Int → Int → Int) : Sp := fun vs H Q _ => ∃ v d v' d', vs = [v, v'] ∧ IsR A H v d ∧ IsR A H v' d' ∧ NewR A (f d d') Q H
theorem keep_of_new {H H1 H2 : Hp} {x dx : Addr} {o o' : HO} (k1 : Keep [] H H1) (hx : H1 x = none) (hdx : H1 dx = none) (k2 : Keep [x] (upd (upd H1 dx o) x o') H2) : Keep [] H H2 := fun b u e _ => by
  have e1 := k1 b u e (by simp)
  have n1 : b ≠ dx := ne_of_none e1 hdx
  have n2 : b ≠ x := ne_of_none e1 hx
  refine k2 b u ?_ (by simpa using n2)
  rw [upd_ne n2, upd_ne n1]
  exact e1
theorem or_in {d d' : Int} (d0 : 0 ≤ d) (d1 : d ≤ 7) (e0 : 0 ≤ d') (e1 : d' ≤ 7) : 0 ≤ Builtin.bitOr d d' ∧ Builtin.bitOr d d' ≤ 7 :=
  eight (F := fun d => ∀ d', 0 ≤ d' → d' ≤ 7 → 0 ≤ Builtin.bitOr d d' ∧ Builtin.bitOr d d' ≤ 7) (by
    refine ⟨?_, ?_, ?_, ?_, ?_, ?_, ?_, ?_⟩ <;> exact fun d' a b => eight (F := fun e => 0 ≤ Builtin.bitOr _ e ∧ Builtin.bitOr _ e ≤ 7) (by decide +kernel) a b) d0 d1 d' e0 e1
theorem ok_Rights___or__ (T : Txt w K mg A) : FnOk P w K mg base CX0 5 A.f_Rights___or__ A.d_Rights___or__ ["self", "other"] (spBin A Builtin.bitOr) := by
  refine T.F_Rights___or__.ok sc_Rights___or__ (fun vs H Q E h => ?_) (fun cdv A_ outer s H vs Q E hr h => ?_)
  · obtain ⟨v, d, v', d', rfl, _⟩ := h
    rfl
  · obtain ⟨_, d, _, d', rfl, ⟨a, dx, rfl, ha, d0, d1⟩, ⟨a', dx', rfl, ha', d0', d1'⟩, q⟩ := h
    refine ⟨_, (pss_one (ps_ret (pe_make T.mk_Rights (ok_Rights___init__ T) (hr.mono (by decide)) (by rfl) T.gC_Rights (bd_Rights___init___1 T).2 (bd_Rights___init___1 T).1 pass0 (pa_cons (pe_ix ix_tup (pe_gc rfl T.c_WORDS) (pe_op op_or (pe_fld (pv 0) rfl) (pe_call (ok__digit_of T) (hr.mono (by decide)) (by rfl) T.g__digit_of T.F__digit_of.kp T.B__digit_of .nil pass0 (pa_cons (pv 1) pa_nil))) (fun _ _ => rfl)) pa_nil)))), ?_⟩
    refine ⟨_, rfl, a, _, dx, _, _, rfl, ha, T.cl_Rights, T.na_Rights__digit, rfl, ?_⟩
    walk_at "rd"
    refine ⟨_, d', rfl, ⟨a', dx', rfl, ha', d0', d1'⟩, ?_⟩
    refine ⟨_, _, rfl, rfl, ?_⟩
    obtain ⟨f0, f1⟩ := or_in d0 d1 d0' d1'
    refine ⟨_, _, _, _, rfl, rfl, wd_sq T H, wd_at f0 f1, ?_⟩
    intro x dy hx hdy hne
    refine ⟨x, dy, _, _, rfl, upd_same, lw_good f0 f1, fun H2 k2 h2 => ⟨rfl, ?_⟩⟩
    exact q x dy H2 hx hdy (keep_of_new Keep.refl hx hdy k2) h2
/-- what stands for rights of this digit -/
def Part (A : Ads) (H : Hp) (v : V) (d : Int) : Prop := IsR A H v d ∨ ∃ t, v = .str t ∧ (t, d) ∈ goodT
theorem IsR.keep {H H' : Hp} {v : V} {d : Int} (h : IsR A H v d) (k : Keep [] H H') : IsR A H' v d := by
  obtain ⟨a, dx, rfl, ha, r⟩ := h
  exact ⟨a, dx, rfl, k _ _ ha (by simp), r⟩
theorem Part.keep {H H' : Hp} {v : V} {d : Int} (h : Part A H v d) (k : Keep [] H H') : Part A H' v d := h.imp (fun z => IsR.keep z k) id
theorem Part.in_ {H : Hp} {v : V} {d : Int} (h : Part A H v d) : 0 ≤ d ∧ d ≤ 7 := by
  rcases h with ⟨a, dx, rfl, ha, d0, d1⟩ | ⟨t, rfl, g⟩
  · exact ⟨d0, d1⟩
  · exact good_in g
theorem ok_as_rights (T : Txt w K mg A) : FnOk P w K mg base CX0 4 A.f_as_rights A.d_as_rights ["value"] (fun vs H Q _ => ∃ v d, vs = [v] ∧ ((IsR A H v d ∧ Q v H) ∨ ∃ t, v = .str t ∧ (t, d) ∈ goodT ∧ NewR A d Q H)) := by
  refine T.F_as_rights.ok sc_as_rights (fun vs H Q E h => ?_) (fun cdv A_ outer s H vs Q E hr h => ?_)
  · obtain ⟨v, d, rfl, _⟩ := h
    rfl
  · obtain ⟨v, d, rfl, h⟩ := h
    refine ⟨_, (pss_one (ps_ret (pe_ifExp (pt_val (pe_callB (call_isA T.in_Rights) (by rfl) T.b_isinstance (by decide +kernel) (pa_cons (pv 0) (pa_cons (pe_gc rfl T.c_Rights) pa_nil)))) (pv 0) (pe_make T.mk_Rights (ok_Rights___init__ T) (hr.mono (by decide)) (by rfl) T.gC_Rights (bd_Rights___init___1 T).2 (bd_Rights___init___1 T).1 pass0 (pa_cons (pv 0) pa_nil))))), ?_⟩
    rcases h with ⟨⟨a, dx, rfl, ha, d0, d1⟩, q⟩ | ⟨t, rfl, g, q⟩
    · walk_at "rd"
      refine .inl ⟨a, dx, _, rfl, ha, ?_⟩
      refine ⟨true, rfl, ?_⟩
      refine ifT rfl ?_
      exact ⟨_, rfl, q⟩
    · walk_at "rd"
      refine .inr ⟨_, _, _, _, _, rfl, .own _, .base (.str _), T.kt_Rights_str, ?_⟩
      refine ⟨false, rfl, ?_⟩
      refine ifF rfl ?_
      walk_at "rd"
      intro x dy hx hdy hne
      refine ⟨x, dy, _, _, rfl, upd_same, g, fun H2 k2 h2 => ⟨rfl, ?_⟩⟩
      exact q x dy H2 hx hdy (keep_of_new Keep.refl hx hdy k2) h2
/-- the letters of all together -/
def orAll (ds : List Int) : Int := ds.foldl Builtin.bitOr 0
theorem orAll_in : ∀ (ds : List Int), (∀ d ∈ ds, 0 ≤ d ∧ d ≤ 7) → ∀ a : Int, 0 ≤ a → a ≤ 7 → 0 ≤ ds.foldl Builtin.bitOr a ∧ ds.foldl Builtin.bitOr a ≤ 7
  | [], _, a, a0, a1 => ⟨a0, a1⟩
  | d :: r, h, a, a0, a1 => by
    obtain ⟨d0, d1⟩ := h d (by simp)
    obtain ⟨o0, o1⟩ := or_in a0 a1 d0 d1
    exact orAll_in r (fun e he => h e (by simp [he])) _ o0 o1
theorem bin_at {f : Int → Int → Int} {H : Hp} {r1 dr1 r2 dr2 : Addr} {d e : Int} {Q : VK} (h1 : H r1 = some (RgO A dr1 d)) (h2 : H r2 = some (RgO A dr2 e)) (d0 : 0 ≤ d) (d1 : d ≤ 7) (e0 : 0 ≤ e) (e1 : e ≤ 7) (q : NewR A (f d e) Q H) :
    rBinI A.C_Rights (fun vs H Q E => spBin A f (vs ++ []) H Q E) E0 (.ref r1) (.ref r2) H Q := ⟨r1, dr1, _, r2, dr2, _, rfl, rfl, h1, h2, _, d, _, e, rfl, ⟨r1, dr1, rfl, h1, d0, d1⟩, ⟨r2, dr2, rfl, h2, e0, e1⟩, q⟩
def spOf0 (A : Ads) : Sp := fun vs H Q _ => ∃ (t : Addr) (ps : List (V × Int)), vs = [.ref A.C_Rights, .ref t] ∧ H t = some (.tup (ps.map (·.1))) ∧ (∀ p ∈ ps, Part A H p.1 p.2) ∧ NewR A (orAll (ps.map (·.2))) Q H
def spOf (A : Ads) : Sp := fun vs H Q _ => ∃ (ps : List (V × Int)), vs = .ref A.C_Rights :: ps.map (·.1) ∧ ps.length ≤ 100 ∧ (∀ p ∈ ps, Part A H p.1 p.2) ∧ NewR A (orAll (ps.map (·.2))) Q H
theorem NewR.new {d : Int} {Q : VK} {H : Hp} {p : Addr} {o : HO} (q : NewR A d Q H) (np : H p = none) : NewR A d Q (upd H p o) := fun x dx H1 hx hdx k h => q x dx H1 ((keep_new np).free hx) ((keep_new np).free hdx) ((keep_new np).trans k) h
theorem ok_Rights_of (T : Txt w K mg A) : FnR P w K mg base CX0 6 A.f_Rights_of (spOf A) := by
  refine FnR.imp (okStar (ps := ["cls"]) (pv := "parts") (sp := spOf0 A) T.F_Rights_of sc_Rights_of (fun kV doc pm an cdv ct us rest hl => ?_) (fun cdv A_ outer s H vs Q E hr h => ?_)) fun vs H Q E h => ?_
  · exact StX.bind_star1 (B := fun us => bindArgs (PySem.W.fnOf "of" "Rights.of" (defArgs s_Rights_of) (defBody s_Rights_of) (defScope s_Rights_of) .none kV doc pm an cdv ct) ⟨us, []⟩) (fun a => rfl) (fun a r rs => rfl) us rest hl
  · obtain ⟨t, ps, rfl, ht, hp, q⟩ := h
    refine ⟨_, (pss_cons (ps_set (i := 2) sc_Rights_of.nd rfl (.inl rfl) (pe_makeL0 (pv 0) T.mk_Rights (ok_Rights___init__ T) (hr.mono (by decide)) (bd_Rights___init___0 T).choose_spec.2 (bd_Rights___init___0 T).choose_spec.1 pass0))
  (pss_cons (ps_for PassesOwn.never rfl (pi_tup (pv 1)) (pg_name (i := 3) sc_Rights_of.nd rfl (.inl rfl)) (pss_one (ps_set (i := 2) sc_Rights_of.nd rfl (.inl rfl) (pe_op (op_binI T.sf_Rights T.me_Rights___or__.at_ T.me_Rights___or__.fn ((ok_Rights___or__ T).raw T.B_Rights___or__ .nil) (hr.mono (by decide)) pass0) (pv 2) (pe_call (ok_as_rights T) (hr.mono (by decide)) (by rfl) T.g_as_rights T.F_as_rights.kp T.B_as_rights .nil pass0 (pa_cons (pv 3) pa_nil))))))
  (pss_one (ps_ret (pv 2))))), ?_⟩
    have W : Ow H [] H [] := Ow.start0
    walk_at "rd"
    refine ⟨rfl, ?_⟩
    intro r1 dr1 hr1 hdr1 hne1
    refine ⟨r1, dr1, _, _, rfl, upd_same, (show (Str.ofString "", 0) ∈ goodT by decide +kernel), fun H2 k2 h2 => ⟨rfl, ?_⟩⟩
    have K2 := keep_of_new Keep.refl hr1 hdr1 k2
    walk_at "rd"
    have ht2 := K2 _ _ ht (by simp)
    refine ⟨⟨_, .inl (.inl ht2)⟩, ?_⟩
    refine for_tu (a := t) (xs := ps.map (·.1)) (fun pre σ H' => ∃ r dr y, σ = [some (.ref A.C_Rights), some (.ref t), some (.ref r), y] ∧ Keep [] H H' ∧ H r = none ∧ H dr = none ∧ H' r = some (RgO A dr (orAll ((ps.take pre.length).map (·.2))))) ⟨r1, dr1, _, rfl, K2, hr1, hdr1, h2⟩ ?_ ?_ ?_
    · rintro pre post σ H3 e ⟨r, dr, y, rfl, k3, _⟩
      exact .inl (.inl (k3 _ _ ht (by simp)))
    · rintro pre v post σ H3 e ⟨r, dr, y, rfl, k3, hr0, hdr0, hr3⟩
      obtain ⟨z, hz, rfl⟩ : ∃ z, ps[pre.length]? = some z ∧ z.1 = v := by
        have h1 := congrArg (fun l => l[pre.length]?) e
        simp only [List.getElem?_append_right (Nat.le_refl _), Nat.sub_self, List.getElem?_cons_zero, List.getElem?_map] at h1
        cases hz : ps[pre.length]? with
        | none => rw [hz] at h1; cases h1
        | some z => rw [hz] at h1; exact ⟨z, rfl, Option.some.inj h1⟩
      have hzm := List.mem_of_getElem? hz
      have hzp := hp z hzm
      obtain ⟨z0, z1⟩ := Part.in_ hzp
      have ea : orAll ((ps.take (pre ++ [z.1]).length).map (·.2)) = Builtin.bitOr (orAll ((ps.take pre.length).map (·.2))) z.2 := by
        rw [List.length_append, List.length_singleton, List.take_add_one, hz]
        unfold orAll
        rw [List.map_append, List.foldl_append]
        rfl
      obtain ⟨o0, o1⟩ := orAll_in ((ps.take pre.length).map (·.2)) (fun d hd => by
        obtain ⟨y, hy, rfl⟩ := List.mem_map.mp hd
        exact Part.in_ (hp y (List.mem_of_mem_take hy))) 0 (by decide) (by decide)
      obtain ⟨zv, zd⟩ := z
      dsimp only at ea z0 z1 hzp
      have main : ∀ (v2 dv2 : Addr) (H4 : Hp) (F : VK), Keep [] H3 H4 → H4 v2 = some (RgO A dv2 zd) → (∀ (x dx : Addr) (H5 : Hp), Keep [] H H5 → H x = none → H dx = none → H5 x = some (RgO A dx (orAll ((ps.take (pre ++ [zv]).length).map (·.2)))) → F (.ref x) H5) →
          rBinI A.C_Rights (fun vs H Q E => spBin A Builtin.bitOr (vs ++ []) H Q E) E0 (.ref r) (.ref v2) H4 F := by
        intro v2 dv2 H4 F k4 hv4 f
        refine bin_at (k4 _ _ hr3 (by simp)) hv4 o0 o1 z0 z1 ?_
        intro x dx H5 hx hdx k5 h5
        have k34 : Keep [] H H4 := Keep.trans k3 k4
        refine f x dx H5 (k34.trans k5) (k34.free hx) (k34.free hdx) ?_
        rw [ea]
        exact h5
      walk_at "rd"
      rcases hzp with ⟨a, dx, rfl, ha, _⟩ | ⟨t', rfl, g⟩
      · have ha3 := k3 _ _ ha (by simp)
        refine ⟨_, zd, rfl, .inl ⟨⟨a, dx, rfl, ha3, z0, z1⟩, ?_⟩⟩
        refine main a dx H3 _ Keep.refl ha3 fun x dx' H5 k5 n1 n2 h5 => ?_
        exact ⟨x, dx', _, rfl, k5, n1, n2, h5⟩
      · refine ⟨_, zd, rfl, .inr ⟨t', rfl, g, ?_⟩⟩
        intro v2 dv2 H4 hv2 hdv2 k4 h4
        refine main v2 dv2 H4 _ k4 h4 fun x dx' H5 k5 n1 n2 h5 => ?_
        exact ⟨x, dx', _, rfl, k5, n1, n2, h5⟩
    · rintro σ H3 ⟨r, dr, y, rfl, k3, hr0, hdr0, hr3⟩
      walk_at "rd"
      refine q r dr H3 hr0 hdr0 k3 ?_
      rw [hr3, List.length_map, List.take_length]
  · obtain ⟨ps, rfl, hl, hp, q⟩ := h
    exact ⟨[.ref A.C_Rights], ps.map (·.1), rfl, rfl, size_le (by rw [List.length_map]; omega), fun p np => ⟨p, ps, rfl, upd_same, fun z hz => (hp z hz).keep (keep_new np), q.new np⟩⟩
end
end K26
namespace K26
open PySem PySem.Spec PyProof.Rows L2 FR TL
open C8 (pss_cut pe_gc)
open StX (pe_callS2 pa_star)
/-! dicts from names to digits -/
abbrev Dm := List (Str × Int)
def dget (m : Dm) (u : Str) : Option Int := (m.find? fun e => decide (e.1 = u)).map (·.2)
def DV (R : V → Int → Prop) : List (L2.Key × V) → Dm → Prop := Paired fun kv e => kv.1 = Sum.inr e.1 ∧ R kv.2 e.2
theorem DV.imp {R S : V → Int → Prop} {kvs : List (L2.Key × V)} {m : Dm} (h : DV R kvs m) (f : ∀ x d, R x d → S x d) : DV S kvs m := Paired.mapP h fun _ _ ⟨e, r⟩ => ⟨e, f _ _ r⟩
theorem DV.len {R : V → Int → Prop} {kvs : List (L2.Key × V)} {m : Dm} (h : DV R kvs m) : kvs.length = m.length := Paired.length h
theorem DV.keys {R : V → Int → Prop} {kvs : List (L2.Key × V)} {m : Dm} (h : DV R kvs m) : kvs.map (·.1) = (m.map (·.1)).map Sum.inr := by
  unfold DV at h
  induction h with
  | nil => rfl
  | cons h t ih => rw [List.map_cons, List.map_cons, List.map_cons, ih, h.1]
theorem DV.val {R : V → Int → Prop} {kvs : List (L2.Key × V)} {m : Dm} (h : DV R kvs m) (u : Str) : (valV kvs (Sum.inr u) = none ∧ dget m u = none ∧ u ∉ m.map (·.1)) ∨ ∃ v d, valV kvs (Sum.inr u) = some v ∧ dget m u = some d ∧ R v d ∧ u ∈ m.map (·.1) := by
  unfold DV at h
  induction h with
  | nil => exact .inl ⟨rfl, rfl, by simp⟩
  | @cons kv e a b h t ih =>
    by_cases c : e.1 = u
    · refine .inr ⟨kv.2, e.2, valV_pos (by rw [h.1, c]), ?_, h.2, by simp [c]⟩
      unfold dget
      rw [List.find?_cons_of_pos (by simpa using c)]
      rfl
    · have e1 : valV (kv :: a) (Sum.inr u) = valV a (Sum.inr u) := valV_neg (by rw [h.1]; exact fun z => c (Sum.inr.inj z))
      have e2 : dget (e :: b) u = dget b u := by
        unfold dget
        rw [List.find?_cons_of_neg (by simpa using c)]
      rw [e1, e2]
      rcases ih with ⟨i1, i2, i3⟩ | ⟨v, d, i1, i2, i3, i4⟩
      · exact .inl ⟨i1, i2, by rw [List.map_cons, List.mem_cons, not_or]; exact ⟨fun z => c z.symm, i3⟩⟩
      · exact .inr ⟨v, d, i1, i2, i3, by rw [List.map_cons]; exact List.mem_cons_of_mem _ i4⟩
theorem DV.snoc {R : V → Int → Prop} {kvs : List (L2.Key × V)} {m : Dm} (h : DV R kvs m) {u : Str} {v : V} {d : Int} (r : R v d) (hu : u ∉ m.map (·.1)) : putK kvs (Sum.inr u) v = kvs ++ [(Sum.inr u, v)] ∧ DV R (kvs ++ [(Sum.inr u, v)]) (m ++ [(u, d)]) := by
  refine ⟨?_, ?_⟩
  · unfold putK
    rw [valV_any]
    rcases h.val u with ⟨e, _⟩ | ⟨_, _, _, _, _, c⟩
    · rw [e]; rfl
    · exact absurd c hu
  · clear hu
    unfold DV at h ⊢
    induction h with
    | nil => exact .cons ⟨rfl, r⟩ .nil
    | cons h t ih => exact .cons h ih
theorem dget_mem {m : Dm} {u : Str} {d : Int} (h : dget m u = some d) : (u, d) ∈ m := by
  unfold dget at h
  obtain ⟨e, h1, h2⟩ := Option.map_eq_some_iff.mp h
  have h3 := List.find?_some h1
  have : e = (u, d) := Prod.ext (of_decide_eq_true h3) h2
  rw [← this]
  exact List.mem_of_find?_eq_some h1
theorem dget_of : ∀ {m : Dm} {u : Str} {d : Int}, (m.map (·.1)).Nodup → (u, d) ∈ m → dget m u = some d
  | [], _, _, _, h => absurd h List.not_mem_nil
  | x :: r, u, d, nd, h => by
    rw [List.map_cons, List.nodup_cons] at nd
    unfold dget
    by_cases c : x.1 = u
    · rw [List.find?_cons_of_pos (by simpa using c)]
      rcases List.mem_cons.mp h with rfl | h
      · rfl
      · exact absurd (List.mem_map.mpr ⟨_, h, c.symm⟩) nd.1
    · rw [List.find?_cons_of_neg (by simpa using c)]
      rcases List.mem_cons.mp h with rfl | h
      · exact absurd rfl c
      · exact dget_of nd.2 h
/-- good names and digits -/
structure Dg (m : Dm) : Prop where
  nd : (m.map (·.1)).Nodup
  us : ∀ e ∈ m, Us e.1
  ds : ∀ e ∈ m, 0 ≤ e.2 ∧ e.2 ≤ 7
  l6 : m.length ≤ 6
theorem Dg.perm {m n : Dm} (h : Dg m) (p : n.Perm m) : Dg n :=
  ⟨(p.map _).nodup_iff.mpr h.nd, fun e he => h.us e (p.mem_iff.mp he), fun e he => h.ds e (p.mem_iff.mp he), by rw [p.length_eq]; exact h.l6⟩
def dd (m : Dm) (u : Str) : Int := (dget m u).getD 0
noncomputable def sd (m : Dm) : Dm := (srt (m.map (·.1))).map fun u => (u, dd m u)
theorem sd_eq {m : Dm} {ys : List Str} (p : ys.Perm (m.map (·.1))) (h : sortedS ys = true) : sd m = ys.map fun u => (u, dd m u) := by
  unfold sd
  rw [← srt_eq p h]
theorem dd_map {m : Dm} (nd : (m.map (·.1)).Nodup) : (m.map (·.1)).map (fun u => (u, dd m u)) = m := by
  rw [List.map_map]
  conv => rhs; rw [← List.map_id m]
  refine List.map_congr_left fun e he => ?_
  show (e.1, dd m e.1) = e
  unfold dd
  rw [dget_of nd he]
  rfl
theorem sd_perm {m : Dm} (nd : (m.map (·.1)).Nodup) {ys : List Str} (p : ys.Perm (m.map (·.1))) (h : sortedS ys = true) : (sd m).Perm m := by
  rw [sd_eq p h]
  have := p.map fun u => (u, dd m u)
  rwa [dd_map nd] at this
theorem dget_perm {m n : Dm} (nd : (m.map (·.1)).Nodup) (p : n.Perm m) (u : Str) : dget n u = dget m u := by
  cases h : dget m u with
  | some d => exact dget_of ((p.map _).nodup_iff.mpr nd) (p.mem_iff.mpr (dget_mem h))
  | none =>
    cases h2 : dget n u with
    | none => rfl
    | some d => rw [dget_of nd (p.mem_iff.mp (dget_mem h2))] at h; cases h
structure AcR where
  ow : Int
  gr : Int
  ot : Int
  us : Dm
  gs : Dm
  ma : Option Int
structure AccOk (c : AcR) : Prop where
  o : 0 ≤ c.ow ∧ c.ow ≤ 7
  g : 0 ≤ c.gr ∧ c.gr ≤ 7
  t : 0 ≤ c.ot ∧ c.ot ≤ 7
  u : Dg c.us
  s : Dg c.gs
  m : (c.ma = none ∧ c.us = [] ∧ c.gs = []) ∨ ∃ d, c.ma = some d ∧ 0 ≤ d ∧ d ≤ 7
structure ALx (A : Ads) (H : Hp) (p dx : Addr) (c : AcR) (o g t mv : V) (u s : Addr) (ku ks : List (L2.Key × V)) : Prop where
  ob : H p = some (.ins A.C_AccessList dx [("_owner", o), ("_group", g), ("_other", t), ("_users", .ref u), ("_groups", .ref s), ("_mask", mv)])
  ho : IsR A H o c.ow
  hg : IsR A H g c.gr
  ht : IsR A H t c.ot
  hu : H u = some (.dK ku)
  hs : H s = some (.dK ks)
  du : DV (IsR A H) ku (sd c.us)
  ds : DV (IsR A H) ks (sd c.gs)
  hm : (mv = .non ∧ c.ma = none) ∨ ∃ d, c.ma = some d ∧ IsR A H mv d
def AL (A : Ads) (H : Hp) (p : Addr) (c : AcR) : Prop := ∃ dx o g t mv u s ku ks, ALx A H p dx c o g t mv u s ku ks
theorem ALx.keep {A : Ads} {H H' : Hp} {p dx : Addr} {c : AcR} {o g t mv : V} {u s : Addr} {ku ks : List (L2.Key × V)} (h : ALx A H p dx c o g t mv u s ku ks) (k : Keep [] H H') : ALx A H' p dx c o g t mv u s ku ks :=
  ⟨k _ _ h.ob (by simp), IsR.keep h.ho k, IsR.keep h.hg k, IsR.keep h.ht k, k _ _ h.hu (by simp), k _ _ h.hs (by simp), h.du.imp fun _ _ r => IsR.keep r k, h.ds.imp fun _ _ r => IsR.keep r k, h.hm.imp id fun ⟨d, e, r⟩ => ⟨d, e, IsR.keep r k⟩⟩
theorem AL.keep {A : Ads} {H H' : Hp} {p : Addr} {c : AcR} (h : AL A H p c) (k : Keep [] H H') : AL A H' p c := by
  obtain ⟨dx, o, g, t, mv, u, s, ku, ks, h⟩ := h
  exact ⟨dx, o, g, t, mv, u, s, ku, ks, h.keep k⟩
section
variable {P : Program} {w : World} {K : PySem.W.Frag} {mg : Str → Option Value} {base : Heap} {A : Ads}
set_option pp.maxSteps 120
theorem ok_AccessList_owner (T : Txt w K mg A) : FnOk P w K mg base CX0 1 A.f_AccessList_owner A.d_AccessList_owner ["self"] (fun vs H Q _ => ∃ p dx c o g t mv u s ku ks, vs = [.ref p] ∧ ALx A H p dx c o g t mv u s ku ks ∧ Q o H) := by
  refine T.F_AccessList_owner.ok sc_AccessList_owner (fun vs H Q E h => ?_) (fun cdv A_ outer s_ H vs Q E hr h => ?_)
  · obtain ⟨p, dx, c, o, g, t, mv, u, s, ku, ks, rfl, _⟩ := h
    rfl
  · obtain ⟨p, dx, c, o, g, t, mv, u, s, ku, ks, rfl, h, q⟩ := h
    refine ⟨_, (pss_one (ps_ret (pe_fld (pv 0) rfl))), ?_⟩
    exact ⟨_, rfl, p, _, dx, _, _, rfl, h.ob, T.cl_AccessList, T.na_AccessList__owner, rfl, q⟩
theorem ok_AccessList_group (T : Txt w K mg A) : FnOk P w K mg base CX0 1 A.f_AccessList_group A.d_AccessList_group ["self"] (fun vs H Q _ => ∃ p dx c o g t mv u s ku ks, vs = [.ref p] ∧ ALx A H p dx c o g t mv u s ku ks ∧ Q g H) := by
  refine T.F_AccessList_group.ok sc_AccessList_group (fun vs H Q E h => ?_) (fun cdv A_ outer s_ H vs Q E hr h => ?_)
  · obtain ⟨p, dx, c, o, g, t, mv, u, s, ku, ks, rfl, _⟩ := h
    rfl
  · obtain ⟨p, dx, c, o, g, t, mv, u, s, ku, ks, rfl, h, q⟩ := h
    refine ⟨_, (pss_one (ps_ret (pe_fld (pv 0) rfl))), ?_⟩
    exact ⟨_, rfl, p, _, dx, _, _, rfl, h.ob, T.cl_AccessList, T.na_AccessList__group, rfl, q⟩
theorem ok_AccessList_other (T : Txt w K mg A) : FnOk P w K mg base CX0 1 A.f_AccessList_other A.d_AccessList_other ["self"] (fun vs H Q _ => ∃ p dx c o g t mv u s ku ks, vs = [.ref p] ∧ ALx A H p dx c o g t mv u s ku ks ∧ Q t H) := by
  refine T.F_AccessList_other.ok sc_AccessList_other (fun vs H Q E h => ?_) (fun cdv A_ outer s_ H vs Q E hr h => ?_)
  · obtain ⟨p, dx, c, o, g, t, mv, u, s, ku, ks, rfl, _⟩ := h
    rfl
  · obtain ⟨p, dx, c, o, g, t, mv, u, s, ku, ks, rfl, h, q⟩ := h
    refine ⟨_, (pss_one (ps_ret (pe_fld (pv 0) rfl))), ?_⟩
    exact ⟨_, rfl, p, _, dx, _, _, rfl, h.ob, T.cl_AccessList, T.na_AccessList__other, rfl, q⟩
theorem ok_AccessList_mask (T : Txt w K mg A) : FnOk P w K mg base CX0 1 A.f_AccessList_mask A.d_AccessList_mask ["self"] (fun vs H Q _ => ∃ p dx c o g t mv u s ku ks, vs = [.ref p] ∧ ALx A H p dx c o g t mv u s ku ks ∧ Q mv H) := by
  refine T.F_AccessList_mask.ok sc_AccessList_mask (fun vs H Q E h => ?_) (fun cdv A_ outer s_ H vs Q E hr h => ?_)
  · obtain ⟨p, dx, c, o, g, t, mv, u, s, ku, ks, rfl, _⟩ := h
    rfl
  · obtain ⟨p, dx, c, o, g, t, mv, u, s, ku, ks, rfl, h, q⟩ := h
    refine ⟨_, (pss_one (ps_ret (pe_fld (pv 0) rfl))), ?_⟩
    exact ⟨_, rfl, p, _, dx, _, _, rfl, h.ob, T.cl_AccessList, T.na_AccessList__mask, rfl, q⟩
theorem ok_AccessList_users (T : Txt w K mg A) : FnOk P w K mg base CX0 1 A.f_AccessList_users A.d_AccessList_users ["self"] (fun vs H Q _ => ∃ p dx c o g t mv u s ku ks, vs = [.ref p] ∧ ALx A H p dx c o g t mv u s ku ks ∧ NewO (.dK ku) Q H) := by
  refine T.F_AccessList_users.ok sc_AccessList_users (fun vs H Q E h => ?_) (fun cdv A_ outer s_ H vs Q E hr h => ?_)
  · obtain ⟨p, dx, c, o, g, t, mv, u, s, ku, ks, rfl, _⟩ := h
    rfl
  · obtain ⟨p, dx, c, o, g, t, mv, u, s, ku, ks, rfl, h, q⟩ := h
    refine ⟨_, (pss_one (ps_ret (pe_callTy call_dictD (by rfl) T.b_dict (by decide +kernel) (pa_cons (pe_fld (pv 0) rfl) pa_nil)))), ?_⟩
    exact ⟨_, rfl, p, _, dx, _, _, rfl, h.ob, T.cl_AccessList, T.na_AccessList__users, rfl, u, ku, rfl, .inl h.hu, q.all⟩
theorem ok_AccessList_groups (T : Txt w K mg A) : FnOk P w K mg base CX0 1 A.f_AccessList_groups A.d_AccessList_groups ["self"] (fun vs H Q _ => ∃ p dx c o g t mv u s ku ks, vs = [.ref p] ∧ ALx A H p dx c o g t mv u s ku ks ∧ NewO (.dK ks) Q H) := by
  refine T.F_AccessList_groups.ok sc_AccessList_groups (fun vs H Q E h => ?_) (fun cdv A_ outer s_ H vs Q E hr h => ?_)
  · obtain ⟨p, dx, c, o, g, t, mv, u, s, ku, ks, rfl, _⟩ := h
    rfl
  · obtain ⟨p, dx, c, o, g, t, mv, u, s, ku, ks, rfl, h, q⟩ := h
    refine ⟨_, (pss_one (ps_ret (pe_callTy call_dictD (by rfl) T.b_dict (by decide +kernel) (pa_cons (pe_fld (pv 0) rfl) pa_nil)))), ?_⟩
    exact ⟨_, rfl, p, _, dx, _, _, rfl, h.ob, T.cl_AccessList, T.na_AccessList__groups, rfl, s, ks, rfl, .inl h.hs, q.all⟩
end
end K26
namespace K26
open PySem PySem.Spec PyProof.Rows L2 FR TL
open C8 (pss_cut pe_gc)
open StX (pe_callS2 pa_star)
section
variable {P : Program} {w : World} {K : PySem.W.Frag} {mg : Str → Option Value} {base : Heap} {A : Ads}
set_option pp.maxSteps 120
theorem ok__keys_in_order (T : Txt w K mg A) : FnOk P w K mg base CX0 1 A.f__keys_in_order A.d__keys_in_order ["value"] (fun vs H Q _ => ∃ a kvs ks, vs = [.ref a] ∧ H a = some (.dK kvs) ∧ kvs.map (·.1) = ks.map Sum.inr ∧ ks.length ≤ 6 ∧ ∀ ys, ys.Perm ks → sortedS ys = true → NewO (.lst (ys.map V.str)) Q H) := by
  refine T.F__keys_in_order.ok sc__keys_in_order (fun vs H Q E h => ?_) (fun cdv A_ outer s_ H vs Q E hr h => ?_)
  · obtain ⟨a, kvs, ks, rfl, _⟩ := h
    rfl
  · obtain ⟨a, kvs, ks, rfl, ha, hk, l6, q⟩ := h
    refine ⟨_, (pss_cons (ps_lock (ps_setLc (i := 1) (own := [("key", 2)]) (g := gName 2) rfl sc__keys_in_order.nd rfl rfl (sw_true rfl rfl rfl (by decide +kernel)) (pi_keys (pv 0)) (blkOk_by (own := [("key", 2)]) (N := N__keys_in_order) (sc := defScope s__keys_in_order) (by decide +kernel)) (fun _ _ _ _ _ => pg_name (i := 2) sc__keys_in_order.nd rfl (Or.inl rfl)) (fun _ _ _ _ _ => (pts_one (pt_val (pe_callB (call_isiK (K := K) rfl) (by rfl) T.b_isinstance (by decide +kernel) (pa_cons (pv 2) (pa_cons (pe_bltn (v := .ty "str") rfl T.b_str (by decide +kernel) rfl) pa_nil)))))) (fun _ _ _ _ _ => (pv 2))))
  (pss_one (ps_ret (pe_op op_catN (pe_callB cr_sortedS (by rfl) T.b_sorted (by decide +kernel) (pa_cons (pe_lock (pe_lc (own := [("key", 2)]) (g := gName 2) rfl sc__keys_in_order.nd (pi_keys (pv 0)) (blkOk_by (own := [("key", 2)]) (N := N__keys_in_order) (sc := defScope s__keys_in_order) (by decide +kernel)) (fun _ _ _ _ _ => pg_name (i := 2) sc__keys_in_order.nd rfl (Or.inl rfl)) (fun _ _ _ _ _ => (pts_one (pt_not (pt_val (pe_callB (call_isiK (K := K) rfl) (by rfl) T.b_isinstance (by decide +kernel) (pa_cons (pv 2) (pa_cons (pe_bltn (v := .ty "str") rfl T.b_str (by decide +kernel) rfl) pa_nil))))))) (fun _ _ _ _ _ => (pv 2)))) pa_nil)) (pe_callB cr_sortedS (by rfl) T.b_sorted (by decide +kernel) (pa_cons (pv 1) pa_nil)))))), ?_⟩
    have hl : kvs.length = ks.length := by simpa using congrArg List.length hk
    have key : ∀ {i : Nat} {k : L2.Key} {v : V}, kvs[i]? = some (k, v) → ∃ s, ks[i]? = some s ∧ k = Sum.inr s := fun {i k v} h => by
      have h1 : (kvs.map (·.1))[i]? = some k := by rw [List.getElem?_map, h]; rfl
      rw [hk, List.getElem?_map] at h1
      obtain ⟨s, h2, h3⟩ := Option.map_eq_some_iff.mp h1
      exact ⟨s, h2, h3.symm⟩
    refine ⟨a, _, ha, trivial, fun od => ?_⟩
    refine ⟨_, rfl, a, od, rfl, .inl ⟨kvs, upd_same, fun D hD => ?_⟩⟩
    have nD : D ≠ a := fun e => by rw [e, upd_same] at hD; cases hD
    refine lc_it walk_keys (fun i H1 => H1 = upd (upd H a (.frz od (.dK kvs))) D (.lst ((ks.take i).map V.str))) rfl (fun i H1 _ e => ?_) (fun i x H1 H2 hi e y => ?_) (fun H1 e => ?_)
    · subst e
      rw [upd_ne (Ne.symm nD), upd_same]
    · subst e
      obtain ⟨rfl, k, v, hkv, rfl⟩ := y
      obtain ⟨s, hs, rfl⟩ := key hkv
      walk_at "rd"
      refine ⟨_, upd_same, size_ok (by rw [List.length_map, List.length_take]; omega), ?_⟩
      rw [upd_again, List.take_add_one, hs, List.map_append]
      rfl
    · subst e
      rw [hl, List.take_length]
      refine ⟨by rw [upd_ne (Ne.symm nD), upd_same], ?_⟩
      have k1 : Keep [] H (upd (upd (upd H a (.frz od (.dK kvs))) D (.lst (ks.map V.str))) a (.dK kvs)) := keep_lock ha (keep_new hD)
      have hD1 : (upd (upd (upd H a (.frz od (.dK kvs))) D (.lst (ks.map V.str))) a (.dK kvs)) D = some (.lst (ks.map V.str)) := by rw [upd_ne nD, upd_same]
      generalize upd (upd (upd H a (.frz od (.dK kvs))) D (.lst (ks.map V.str))) a (.dK kvs) = H1 at k1 hD1 ⊢
      have ha1 := k1 _ _ ha (by simp)
      clear hD
      refine ⟨a, _, ha1, trivial, fun od2 => ?_⟩
      refine ⟨_, rfl, a, od2, rfl, .inl ⟨kvs, upd_same, fun D2 hD2 => ?_⟩⟩
      have nD2 : D2 ≠ a := fun e => by rw [e, upd_same] at hD2; cases hD2
      refine lc_it walk_keys (fun i H2 => H2 = upd (upd H1 a (.frz od2 (.dK kvs))) D2 (.lst [])) rfl (fun i H2 _ e => ?_) (fun i x H2 H3 hi e y => ?_) (fun H2 e => ?_)
      · subst e
        rw [upd_ne (Ne.symm nD2), upd_same]
      · subst e
        obtain ⟨rfl, k, v, hkv, rfl⟩ := y
        obtain ⟨s, hs, rfl⟩ := key hkv
        walk_at "rd"
        rfl
      · subst e
        refine ⟨by rw [upd_ne (Ne.symm nD2), upd_same], ?_⟩
        have k2 : Keep [] H1 (upd (upd (upd H1 a (.frz od2 (.dK kvs))) D2 (.lst [])) a (.dK kvs)) := keep_lock ha1 (keep_new hD2)
        have hD3 : (upd (upd (upd H1 a (.frz od2 (.dK kvs))) D2 (.lst [])) a (.dK kvs)) D2 = some (.lst []) := by rw [upd_ne nD2, upd_same]
        generalize upd (upd (upd H1 a (.frz od2 (.dK kvs))) D2 (.lst [])) a (.dK kvs) = H3 at k2 hD3 ⊢
        refine ⟨D2, [], rfl, .inl (.inl hD3), by decide, fun zs p4 pz _ n4 => ?_⟩
        obtain rfl : zs = [] := List.length_eq_zero_iff.mp pz.length_eq
        have k3 : Keep [] H1 (upd H3 p4 (.lst ([].map V.str))) := k2.trans (keep_new n4)
        have h4 : upd H3 p4 (.lst ([].map V.str)) p4 = some (.lst []) := upd_same
        generalize upd H3 p4 (.lst ([].map V.str)) = H4 at k3 h4 ⊢
        refine ⟨_, rfl, D, ks, rfl, .inl (.inl (k3 _ _ hD1 (by simp))), by omega, fun ys p5 py sy n5 => ?_⟩
        have k4 : Keep [] H (upd H4 p5 (.lst (ys.map V.str))) := (k1.trans k3).trans (keep_new n5)
        have h5 : upd H4 p5 (.lst (ys.map V.str)) p5 = some (.lst (ys.map V.str)) := upd_same
        have h4' : upd H4 p5 (.lst (ys.map V.str)) p4 = some (.lst []) := by rw [upd_ne (ne_of_none h4 n5)]; exact h4
        generalize upd H4 p5 (.lst (ys.map V.str)) = H5 at k4 h5 h4' ⊢
        have ly := py.length_eq
        refine ⟨p4, p5, _, _, rfl, rfl, h4', h5, size_le (by rw [List.length_map]; simp; omega), NewO.mk fun p6 H6 n6 k6 h6 => ?_⟩
        exact (q ys py sy).to p6 H6 (k4.free n6) (k4.trans k6) h6
def DT (kvs : List (L2.Key × V)) (m : Dm) : Prop := DV (fun x d => ∃ t, x = .str t ∧ (t, d) ∈ goodT) kvs m
theorem IsR.put {H : Hp} {D : Addr} {o o' : HO} {x : V} {d : Int} (r : IsR A H x d) (h : H D = some o) (n : ∀ C dx fs, o ≠ .ins C dx fs) : IsR A (upd H D o') x d := by
  obtain ⟨a, dx, rfl, ha, r⟩ := r
  exact ⟨a, dx, rfl, by rw [upd_ne (ne_of ha h fun z => n _ _ _ z.symm)]; exact ha, r⟩
theorem ok__named_rights (T : Txt w K mg A) : FnOk P w K mg base CX0 6 A.f__named_rights A.d__named_rights ["value"] (fun vs H Q _ => ∃ a kvs m, vs = [.ref a] ∧ H a = some (.dK kvs) ∧ DT kvs m ∧ Dg m ∧ ∀ p H' ks, H p = none → Keep [] H H' → H' p = some (.dK ks) → DV (IsR A H') ks (sd m) → (sd m).Perm m → Q (.ref p) H') := by
  refine T.F__named_rights.ok sc__named_rights (fun vs H Q E h => ?_) (fun cdv A_ outer s_ H vs Q E hr h => ?_)
  · obtain ⟨a, kvs, m, rfl, _⟩ := h
    rfl
  · obtain ⟨a, kvs, m, rfl, ha, dt, gd, q⟩ := h
    refine ⟨_, (pss_cons (ps_if (pt_cmpR op_isN (pv 0) pe_non (nomark _)) (pss_one (ps_ret pe_dnewN)) pss_nil)
  (pss_cons (ps_if (PW.pt (pw_or (pt_not (pt_val (pe_callB call_isi (by rfl) T.b_isinstance (by decide +kernel) (pa_cons (pv 0) (pa_cons (pe_bltn (v := .ty "dict") rfl T.b_dict (by decide +kernel) rfl) pa_nil))))) (pw_or1 (pt_cmpR op_gt (pe_callB call_lenD (by rfl) T.b_len PySem.boot_len (pa_cons (pv 0) pa_nil)) (pe_gc rfl T.c_MOST_NAMED) (nomark _))))) (pss_one ps_never) pss_nil)
  (pss_cons (ps_set (i := 1) sc__named_rights.nd rfl (.inl rfl) pe_dnewN)
  (pss_cons (ps_for PassesOwn.never rfl (pi_list (pe_call (ok__keys_in_order T) (hr.mono (by decide)) (by rfl) T.g__keys_in_order T.F__keys_in_order.kp T.B__keys_in_order .nil pass0 (pa_cons (pv 0) pa_nil))) (pg_name (i := 2) sc__named_rights.nd rfl (.inl rfl)) (pss_cons (ps_if (pt_not (pt_val (pe_call (ok_is_user_name T) (hr.mono (by decide)) (by rfl) T.g_is_user_name T.F_is_user_name.kp T.B_is_user_name .nil pass0 (pa_cons (pv 2) pa_nil)))) (pss_one ps_never) pss_nil)
  (pss_one (ps_asg (pe_call (ok_as_rights T) (hr.mono (by decide)) (by rfl) T.g_as_rights T.F_as_rights.kp T.B_as_rights .nil pass0 (pa_cons (pe_dget (hu_of hr) (pv 0) (pv 2) (fun _ _ => rfl)) pa_nil)) (pg_sub (pv 1) (pv 2) (set_dict (hu_of hr)))))))
  (pss_one (ps_ret (pv 1))))))), ?_⟩
    have l6 := gd.l6
    have hl := dt.len
    refine ⟨_, rfl, rfl, _, rfl, ?_⟩
    refine ifF (decide_eq_false (fun z => by cases z)) ?_
    refine ⟨_, rfl, _, _, _, _, _, rfl, .ty _, TyX.base (.dK ha), kit_ty ki_dK_dict, _, rfl, ?_⟩
    refine ifF rfl ?_
    refine ⟨_, rfl, a, kvs, rfl, ha, _, _, rfl, rfl, _, rfl, ?_⟩
    refine ifF (decide_eq_false (by omega)) ?_
    refine NewO.mk fun n H1 nn k1 h1 => ?_
    refine ⟨_, rfl, a, kvs, m.map (·.1), rfl, k1 _ _ ha (by simp), dt.keys, by rw [List.length_map]; exact l6, fun ys py sy => NewO.mk fun l H2 nl k2 h2 => ?_⟩
    have eM := sd_eq py sy
    have pM := sd_perm gd.nd py sy
    have ynd : ys.Nodup := py.nodup_iff.mpr gd.nd
    have K2 := k1.trans k2
    have hn2 := k2 _ _ h1 (by simp)
    have ly : ys.length ≤ 6 := by rw [py.length_eq, List.length_map]; exact l6
    refine ⟨l, rfl, ⟨_, .inl (.inl h2)⟩, ?_⟩
    refine for_li (K := K) (a := l) (xs := ys.map V.str) (fun pre σ H' => (∃ y2, σ = [some (.ref a), some (.ref n), y2]) ∧ Keep [] H H' ∧ H' l = some (.lst (ys.map V.str)) ∧ ∃ ks, H' n = some (.dK ks) ∧ DV (IsR A H') ks ((sd m).take pre.length)) ⟨⟨none, rfl⟩, K2, h2, [], hn2, .nil⟩ (fun pre post σ H' _ h => .inl (.inl h.2.2.1)) ?_ ?_
    · rintro pre v post σ H3 ex ⟨⟨y2, rfl⟩, K3, hl3, ks, hn3, dv⟩
      have hx : (ys.map V.str)[pre.length]? = some v := by rw [ex]; simp
      rw [List.getElem?_map] at hx
      obtain ⟨u, hu, rfl⟩ := Option.map_eq_some_iff.mp hx
      have hum : u ∈ m.map (·.1) := py.mem_iff.mp (List.mem_of_getElem? hu)
      have hMi : (sd m)[pre.length]? = some (u, dd m u) := by rw [eM, List.getElem?_map, hu]; rfl
      have nin : u ∉ ((sd m).take pre.length).map (·.1) := by
        rw [List.map_take, eM, List.map_map, show ys.map ((fun x : Str × Int => x.1) ∘ fun u => (u, dd m u)) = ys from List.map_id _]
        exact take_none ynd hu
      obtain ⟨_, _, c⟩ | ⟨v, d, hv, hd, ⟨t, rfl, ht⟩, _⟩ := dt.val u
      · exact absurd hum c
      have ed : dd m u = d := by unfold dd; rw [hd]; rfl
      obtain ⟨e, he, eu⟩ := List.mem_map.mp hum
      have us : Us u := by rw [← eu]; exact gd.us e he
      refine ⟨_, rfl, u, rfl, us, ?_⟩
      refine ⟨_, rfl, ?_⟩
      refine ifF rfl ?_
      refine ⟨_, rfl, _, rfl, a, _, rfl, .inl ⟨kvs, Sum.inr u, .inl (K3 _ _ ha (by simp)), rfl, hv.symm⟩, ?_⟩
      refine ⟨_, d, rfl, .inr ⟨t, rfl, ht, fun r dr H4 hr4 hdr4 k4 h4 => ?_⟩⟩
      have hn4 := k4 _ _ hn3 (by simp)
      have r4 : IsR A H4 (.ref r) d := ⟨r, dr, rfl, h4, good_in ht⟩
      obtain ⟨s1, s2⟩ := (dv.imp fun _ _ z => (IsR.keep z k4).put (o' := .dK (ks ++ [(Sum.inr u, .ref r)])) hn4 (fun _ _ _ z => by cases z)).snoc (v := .ref r) (d := d) (r4.put hn4 (fun _ _ _ z => by cases z)) nin
      refine ⟨_, rfl, _, rfl, n, _, rfl, .inl ⟨ks, Sum.inr u, hn4, rfl, ?_, rfl⟩, ?_⟩
      · refine size_ok ?_
        rw [dv.len, List.length_take, pM.length_eq]
        omega
      · refine ⟨⟨_, rfl⟩, keep_free (K3.trans k4) nn, ?_, ks ++ [(Sum.inr u, .ref r)], by rw [s1, upd_same], ?_⟩
        · rw [upd_ne (ne_of (k4 _ _ hl3 (by simp)) hn4 (fun z => by cases z))]
          exact k4 _ _ hl3 (by simp)
        · rw [s1, List.length_append, List.length_singleton, List.take_add_one, hMi, ed]
          exact s2
    · rintro σ H3 ⟨⟨y2, rfl⟩, K3, hl3, ks, hn3, dv⟩
      have lM : (ys.map V.str).length = (sd m).length := by rw [List.length_map, eM, List.length_map]
      rw [lM, List.take_length] at dv
      refine ⟨_, rfl, ?_⟩
      exact q n H3 ks nn K3 hn3 dv pM
end
end K26
namespace K26
open PySem PySem.Spec PyProof.Rows L2 FR TL
open C8 (pss_cut pe_gc)
open StX (pe_callS2 pa_star)
section
variable {P : Program} {w : World} {K : PySem.W.Frag} {mg : Str → Option Value} {base : Heap} {A : Ads}
set_option pp.maxSteps 120
def Fso (fs : List (Str × V)) : Prop := fs = [] ∨ ∃ v r, fs = ((Str.ofString "_owner"), v) :: r
theorem rg_ne {A : Ads} {dx C dx' : Addr} {d : Int} {fs : List (Str × V)} (h : Fso fs) : RgO A dx d ≠ .ins C dx' fs := fun e => by
  unfold RgO at e
  injection e with _ _ e
  rcases h with rfl | ⟨v, r, rfl⟩
  · cases e
  · injection e with e _
    have e := congrArg Prod.fst e
    exact absurd (show Str.ofString "_digit" = Str.ofString "_owner" from e) (by decide +kernel)
theorem IsR.putP {H : Hp} {p C dx : Addr} {fs : List (Str × V)} {o' : HO} {x : V} {d : Int} (r : IsR A H x d) (h : H p = some (.ins C dx fs)) (n : Fso fs) : IsR A (upd H p o') x d := by
  obtain ⟨a, dx2, rfl, ha, r⟩ := r
  exact ⟨a, dx2, rfl, by rw [upd_ne (ne_of ha h (rg_ne n))]; exact ha, r⟩
theorem ok_AccessList__first_mask (T : Txt w K mg A) : FnOk P w K mg base CX0 8 A.f_AccessList__first_mask A.d_AccessList__first_mask ["self"] (fun vs H Q _ => ∃ p dx fs u s, vs = [.ref p] ∧ H p = some (.ins A.C_AccessList dx fs) ∧ fs.lookup (Str.ofString "_users") = some (.ref u) ∧ fs.lookup (Str.ofString "_groups") = some (.ref s) ∧ H u = some (.dK []) ∧ H s = some (.dK []) ∧ ∀ H', Keep [] H H' → Q .non H') := by
  refine T.F_AccessList__first_mask.ok sc_AccessList__first_mask (fun vs H Q E h => ?_) (fun cdv A_ outer s_ H vs Q E hr h => ?_)
  · obtain ⟨p, dx, fs, u, s, rfl, _⟩ := h
    rfl
  · obtain ⟨p, dx, fs, u, s, rfl, hp, fu, fs', hu, hs, q⟩ := h
    refine ⟨_, (pss_cons (ps_set (i := 1) sc_AccessList__first_mask.nd rfl (.inl rfl) (pe_op op_catN (pe_callTy (call_lVals rfl) (by rfl) T.b_list (by decide +kernel) (pa_cons (pe_bm0 PySem.F.plainAttrs_dict PySem.F.slot_dict_values PySem.F.type_dict_values mt_valuesK (pe_fld (pv 0) rfl)) pa_nil)) (pe_callTy (call_lVals rfl) (by rfl) T.b_list (by decide +kernel) (pa_cons (pe_bm0 PySem.F.plainAttrs_dict PySem.F.slot_dict_values PySem.F.type_dict_values mt_valuesK (pe_fld (pv 0) rfl)) pa_nil))))
  (pss_one (ps_ret (pe_ifExp (pt_truth (pv 1) (by intro _; rfl)) pe_nev pe_non)))), ?_⟩
    refine ⟨_, rfl, p, _, dx, _, _, rfl, hp, T.cl_AccessList, T.na_AccessList__users, fu, ?_⟩
    refine ⟨.inr (.inr (.inl ⟨rfl, .inl ⟨_, hu⟩⟩)), u, _, rfl, rfl, hu, fun p1 n1 => ?_⟩
    have hu1 : upd H p1 (valuesO p1 u) u = some (.dK []) := by rw [upd_ne (ne_of_none hu n1)]; exact hu
    have k1 : Keep [] H (upd H p1 (valuesO p1 u)) := keep_new n1
    refine ⟨p1, u, _, rfl, upd_same, hu1, NewO.mk fun p2 H2 n2 k2 h2 => ?_⟩
    have k12 := k1.trans k2
    refine ⟨_, rfl, p, _, dx, _, _, rfl, k12 _ _ hp (by simp), T.cl_AccessList, T.na_AccessList__groups, fs', ?_⟩
    have hs2 := k12 _ _ hs (by simp)
    refine ⟨.inr (.inr (.inl ⟨rfl, .inl ⟨_, hs2⟩⟩)), s, _, rfl, rfl, hs2, fun p3 n3 => ?_⟩
    have hs3 : upd H2 p3 (valuesO p3 s) s = some (.dK []) := by rw [upd_ne (ne_of_none hs2 n3)]; exact hs2
    have k3 : Keep [] H2 (upd H2 p3 (valuesO p3 s)) := keep_new n3
    refine ⟨p3, s, _, rfl, upd_same, hs3, NewO.mk fun p4 H4 n4 k4 h4 => ?_⟩
    have k34 := k3.trans k4
    refine ⟨p2, p4, _, _, rfl, rfl, k34 _ _ h2 (by simp), h4, Nat.zero_le _, NewO.mk fun p5 H5 n5 k5 h5 => ?_⟩
    refine ⟨_, rfl, false, ?_, ?_⟩
    · exact .inl ⟨[], .inl (.inl h5), rfl⟩
    refine ifF rfl ?_
    exact q H5 ((k12.trans k34).trans k5)
theorem putF_new {f : Str} {v : V} : ∀ {fs : List (Str × V)}, (∀ q ∈ fs, q.1 ≠ f) → putF f v fs = fs ++ [(f, v)]
  | [], _ => rfl
  | (g, x) :: r, h => by
    have ne : g ≠ f := h (g, x) List.mem_cons_self
    show (if g = f then _ else _) = _
    rw [if_neg ne, putF_new fun q hq => h q (List.mem_cons_of_mem _ hq)]
    rfl
def spInitA (A : Ads) : Sp := fun vs H Q _ => ∃ p dx to_ tg tt ud gd mv c kud kgd, vs = [.ref p, .str to_, .str tg, .str tt, .ref ud, .ref gd, mv] ∧ H p = some (.ins A.C_AccessList dx []) ∧ (to_, AcR.ow c) ∈ goodT ∧ (tg, c.gr) ∈ goodT ∧ (tt, c.ot) ∈ goodT ∧
  H ud = some (.dK kud) ∧ DT kud c.us ∧ H gd = some (.dK kgd) ∧ DT kgd c.gs ∧ ((mv = .non ∧ c.ma = none) ∨ ∃ t d, mv = .str t ∧ (t, d) ∈ goodT ∧ c.ma = some d) ∧ AccOk c ∧ ∀ H', Keep [p] H H' → AL A H' p c → (sd c.us).Perm c.us → (sd c.gs).Perm c.gs → Q .non H'
theorem ok_AccessList___init__ (T : Txt w K mg A) : FnOk P w K mg base CX0 9 A.f_AccessList___init__ A.d_AccessList___init__ ["self", "owner", "group", "other", "users", "groups", "mask"] (spInitA A) := by
  refine (T.F_AccessList___init__.ok (CX := CX0) sc_AccessList___init__ (fun vs H Q E h => ?_) (fun cdv A_ outer s_ H vs Q E hr h => ?_))
  · obtain ⟨p, dx, to_, tg, tt, ud, gd, mv, c, kud, kgd, rfl, _⟩ := h
    rfl
  · obtain ⟨p, dx, to_, tg, tt, ud, gd, mv, c, kud, kgd, rfl, hp, go, gg, gt, hud, du, hgd, dg, hm, ok, q⟩ := h
    refine ⟨_, (pss_cons (ps_fld (pv 0) (pe_call (ok_as_rights T) (hr.mono (by decide)) (by rfl) T.g_as_rights T.F_as_rights.kp T.B_as_rights .nil pass0 (pa_cons (pv 1) pa_nil)) rfl)
  (pss_cons (ps_fld (pv 0) (pe_call (ok_as_rights T) (hr.mono (by decide)) (by rfl) T.g_as_rights T.F_as_rights.kp T.B_as_rights .nil pass0 (pa_cons (pv 2) pa_nil)) rfl)
  (pss_cons (ps_fld (pv 0) (pe_call (ok_as_rights T) (hr.mono (by decide)) (by rfl) T.g_as_rights T.F_as_rights.kp T.B_as_rights .nil pass0 (pa_cons (pv 3) pa_nil)) rfl)
  (pss_cons (ps_fld (pv 0) (pe_call (ok__named_rights T) (hr.mono (by decide)) (by rfl) T.g__named_rights T.F__named_rights.kp T.B__named_rights .nil pass0 (pa_cons (pv 4) pa_nil)) rfl)
  (pss_cons (ps_fld (pv 0) (pe_call (ok__named_rights T) (hr.mono (by decide)) (by rfl) T.g__named_rights T.F__named_rights.kp T.B__named_rights .nil pass0 (pa_cons (pv 5) pa_nil)) rfl)
  (pss_one (ps_fld (pv 0) (pe_ifExp (pt_cmpR op_isN (pv 6) pe_non (nomark _)) (pe_meth0 (pv 0) T.cl_AccessList T.me_AccessList__first_mask (ok_AccessList__first_mask T) (hr.mono (by decide)) T.B_AccessList__first_mask .nil pass0) (pe_call (ok_as_rights T) (hr.mono (by decide)) (by rfl) T.g_as_rights T.F_as_rights.kp T.B_as_rights .nil pass0 (pa_cons (pv 6) pa_nil))) rfl))))))), ?_⟩
    refine ⟨_, rfl, _, _, rfl, .inr ⟨_, rfl, go, fun o dro H1 no ndo k1 h1 => ?_⟩⟩
    have hp1 := k1 _ _ hp (by simp)
    refine ⟨_, rfl, p, _, dx, _, rfl, hp1, T.cl_AccessList, T.na_AccessList__owner, by decide, ?_⟩
    have i0 : Fso ([] : List (Str × V)) := .inl rfl
    have cons : ∀ v r, Fso ((Str.ofString "_owner", v) :: r) := fun v r => .inr ⟨v, r, rfl⟩
    have o2 : IsR A (upd H1 p (.ins A.C_AccessList dx (putF (Str.ofString "_owner") (.ref o) []))) (.ref o) c.ow := IsR.putP ⟨o, dro, rfl, h1, good_in go⟩ hp1 i0
    have K2 : Keep [p] H (upd H1 p (.ins A.C_AccessList dx (putF (Str.ofString "_owner") (.ref o) []))) := fun b u e nb => by
      rw [upd_ne (by simpa using nb)]
      exact k1 _ _ e (by simp)
    have hp2 : (upd H1 p (.ins A.C_AccessList dx (putF (Str.ofString "_owner") (.ref o) []))) p = some (.ins A.C_AccessList dx [(Str.ofString "_owner", .ref o)]) := upd_same
    generalize upd H1 p (.ins A.C_AccessList dx (putF (Str.ofString "_owner") (.ref o) [])) = H2 at o2 K2 hp2 ⊢
    clear k1 h1 hp1
    -- group
    refine ⟨_, rfl, _, _, rfl, .inr ⟨_, rfl, gg, fun g drg H3 ng ndg k3 h3 => ?_⟩⟩
    have hp3 := k3 _ _ hp2 (by simp)
    refine ⟨_, rfl, p, _, dx, _, rfl, hp3, T.cl_AccessList, T.na_AccessList__group, by show 1 < 1000; decide, ?_⟩
    have o4 : IsR A (upd H3 p (.ins A.C_AccessList dx (putF (Str.ofString "_group") (.ref g) [(Str.ofString "_owner", .ref o)]))) (.ref o) c.ow := (IsR.keep o2 k3).putP hp3 (cons _ _)
    have g4 : IsR A (upd H3 p (.ins A.C_AccessList dx (putF (Str.ofString "_group") (.ref g) [(Str.ofString "_owner", .ref o)]))) (.ref g) c.gr := IsR.putP ⟨g, drg, rfl, h3, good_in gg⟩ hp3 (cons _ _)
    have K4 : Keep [p] H (upd H3 p (.ins A.C_AccessList dx (putF (Str.ofString "_group") (.ref g) [(Str.ofString "_owner", .ref o)]))) := fun b u e nb => by
      rw [upd_ne (by simpa using nb)]
      exact k3 _ _ (K2 _ _ e nb) (by simp)
    have hp4 : (upd H3 p (.ins A.C_AccessList dx (putF (Str.ofString "_group") (.ref g) [(Str.ofString "_owner", .ref o)]))) p = some (.ins A.C_AccessList dx [(Str.ofString "_owner", .ref o), (Str.ofString "_group", .ref g)]) := upd_same
    generalize upd H3 p (.ins A.C_AccessList dx (putF (Str.ofString "_group") (.ref g) [(Str.ofString "_owner", .ref o)])) = H4 at o4 g4 K4 hp4 ⊢
    clear k3 h3 hp3 o2 K2 hp2
    -- other
    refine ⟨_, rfl, _, _, rfl, .inr ⟨_, rfl, gt, fun t drt H5 nt ndt k5 h5 => ?_⟩⟩
    have hp5 := k5 _ _ hp4 (by simp)
    refine ⟨_, rfl, p, _, dx, _, rfl, hp5, T.cl_AccessList, T.na_AccessList__other, by show 2 < 1000; decide, ?_⟩
    have o6 : IsR A (upd H5 p (.ins A.C_AccessList dx (putF (Str.ofString "_other") (.ref t) [(Str.ofString "_owner", .ref o), (Str.ofString "_group", .ref g)]))) (.ref o) c.ow := (IsR.keep o4 k5).putP hp5 (cons _ _)
    have g6 : IsR A (upd H5 p (.ins A.C_AccessList dx (putF (Str.ofString "_other") (.ref t) [(Str.ofString "_owner", .ref o), (Str.ofString "_group", .ref g)]))) (.ref g) c.gr := (IsR.keep g4 k5).putP hp5 (cons _ _)
    have t6 : IsR A (upd H5 p (.ins A.C_AccessList dx (putF (Str.ofString "_other") (.ref t) [(Str.ofString "_owner", .ref o), (Str.ofString "_group", .ref g)]))) (.ref t) c.ot := IsR.putP ⟨t, drt, rfl, h5, good_in gt⟩ hp5 (cons _ _)
    have K6 : Keep [p] H (upd H5 p (.ins A.C_AccessList dx (putF (Str.ofString "_other") (.ref t) [(Str.ofString "_owner", .ref o), (Str.ofString "_group", .ref g)]))) := fun b u e nb => by
      rw [upd_ne (by simpa using nb)]
      exact k5 _ _ (K4 _ _ e nb) (by simp)
    have hp6 : (upd H5 p (.ins A.C_AccessList dx (putF (Str.ofString "_other") (.ref t) [(Str.ofString "_owner", .ref o), (Str.ofString "_group", .ref g)]))) p = some (.ins A.C_AccessList dx [(Str.ofString "_owner", .ref o), (Str.ofString "_group", .ref g), (Str.ofString "_other", .ref t)]) := by
      rw [upd_same]
      have e1 : Str.ofString "_owner" ≠ Str.ofString "_other" := by decide +kernel
      have e2 : Str.ofString "_group" ≠ Str.ofString "_other" := by decide +kernel
      simp [putF, e1, e2]
    generalize upd H5 p (.ins A.C_AccessList dx (putF (Str.ofString "_other") (.ref t) [(Str.ofString "_owner", .ref o), (Str.ofString "_group", .ref g)])) = H6 at o6 g6 t6 K6 hp6 ⊢
    clear k5 h5 hp5 o4 g4 K4 hp4
    -- users
    have npud : ud ≠ p := ne_of hud hp (fun z => by cases z)
    have npgd : gd ≠ p := ne_of hgd hp (fun z => by cases z)
    refine ⟨_, rfl, ud, kud, c.us, rfl, K6 _ _ hud (by simpa using npud), du, ok.u, fun u H7 ku nu k7 hu7 dvu pu => ?_⟩
    have hp7 := k7 _ _ hp6 (by simp)
    refine ⟨_, rfl, p, _, dx, _, rfl, hp7, T.cl_AccessList, T.na_AccessList__users, by show 3 < 1000; decide, ?_⟩
    rw [putF_new (f := Str.ofString "_users") (fs := [(Str.ofString "_owner", .ref o), (Str.ofString "_group", .ref g), (Str.ofString "_other", .ref t)]) (by simp; decide +kernel)]
    have nup : u ≠ p := ne_of hu7 hp7 (fun z => by cases z)
    have step : ∀ {F : HO}, (∀ x d, IsR A H7 x d → IsR A (upd H7 p F) x d) := fun {F} x d r => IsR.putP r hp7 (cons _ _)
    have hu8 : ∀ F, upd H7 p F u = some (.dK ku) := fun F => by rw [upd_ne nup]; exact hu7
    have K8 : ∀ F, Keep [p] H (upd H7 p F) := fun F b x e nb => by
      rw [upd_ne (by simpa using nb)]
      exact k7 _ _ (K6 _ _ e nb) (by simp)
    have hp8 : upd H7 p (.ins A.C_AccessList dx ([(Str.ofString "_owner", .ref o), (Str.ofString "_group", .ref g), (Str.ofString "_other", .ref t)] ++ [(Str.ofString "_users", .ref u)])) p = _ := upd_same
    have o8 := step (F := .ins A.C_AccessList dx ([(Str.ofString "_owner", .ref o), (Str.ofString "_group", .ref g), (Str.ofString "_other", .ref t)] ++ [(Str.ofString "_users", .ref u)])) _ _ (IsR.keep o6 k7)
    have g8 := step (F := .ins A.C_AccessList dx ([(Str.ofString "_owner", .ref o), (Str.ofString "_group", .ref g), (Str.ofString "_other", .ref t)] ++ [(Str.ofString "_users", .ref u)])) _ _ (IsR.keep g6 k7)
    have t8 := step (F := .ins A.C_AccessList dx ([(Str.ofString "_owner", .ref o), (Str.ofString "_group", .ref g), (Str.ofString "_other", .ref t)] ++ [(Str.ofString "_users", .ref u)])) _ _ (IsR.keep t6 k7)
    have dv8 := dvu.imp (step (F := .ins A.C_AccessList dx ([(Str.ofString "_owner", .ref o), (Str.ofString "_group", .ref g), (Str.ofString "_other", .ref t)] ++ [(Str.ofString "_users", .ref u)])))
    have hu8 := hu8 (.ins A.C_AccessList dx ([(Str.ofString "_owner", .ref o), (Str.ofString "_group", .ref g), (Str.ofString "_other", .ref t)] ++ [(Str.ofString "_users", .ref u)]))
    have K8 := K8 (.ins A.C_AccessList dx ([(Str.ofString "_owner", .ref o), (Str.ofString "_group", .ref g), (Str.ofString "_other", .ref t)] ++ [(Str.ofString "_users", .ref u)]))
    generalize upd H7 p (.ins A.C_AccessList dx ([(Str.ofString "_owner", .ref o), (Str.ofString "_group", .ref g), (Str.ofString "_other", .ref t)] ++ [(Str.ofString "_users", .ref u)])) = H8 at hp8 o8 g8 t8 dv8 hu8 K8 ⊢
    clear step k7 hp7 hu7 dvu nup o6 g6 t6 K6 hp6
    -- groups
    refine ⟨_, rfl, gd, kgd, c.gs, rfl, K8 _ _ hgd (by simpa using npgd), dg, ok.s, fun s H9 ks ns k9 hs9 dvs ps => ?_⟩
    have hp9 := k9 _ _ hp8 (by simp)
    refine ⟨_, rfl, p, _, dx, _, rfl, hp9, T.cl_AccessList, T.na_AccessList__groups, by show 4 < 1000; decide, ?_⟩
    rw [putF_new (f := Str.ofString "_groups") (by simp; decide +kernel)]
    have nsp : s ≠ p := ne_of hs9 hp9 (fun z => by cases z)
    obtain ⟨fs5, hF5⟩ : ∃ fs5 : List (Str × V), fs5 = [(Str.ofString "_owner", .ref o), (Str.ofString "_group", .ref g), (Str.ofString "_other", .ref t)] ++ [(Str.ofString "_users", .ref u)] ++ [(Str.ofString "_groups", .ref s)] := ⟨_, rfl⟩
    rw [← hF5]
    have c5 : Fso fs5 := by rw [hF5]; exact cons _ _
    have step : ∀ x d, IsR A H9 x d → IsR A (upd H9 p (.ins A.C_AccessList dx fs5)) x d := fun x d r => IsR.putP r hp9 (cons _ _)
    have hp10 : upd H9 p (.ins A.C_AccessList dx fs5) p = some (.ins A.C_AccessList dx fs5) := upd_same
    have o10 := step _ _ (IsR.keep o8 k9)
    have g10 := step _ _ (IsR.keep g8 k9)
    have t10 := step _ _ (IsR.keep t8 k9)
    have dv10 := (dv8.imp fun _ _ r => IsR.keep r k9).imp step
    have ds10 := dvs.imp step
    have hu10 : upd H9 p (.ins A.C_AccessList dx fs5) u = some (.dK ku) := by rw [upd_ne (ne_of (k9 _ _ hu8 (by simp)) hp9 (fun z => by cases z))]; exact k9 _ _ hu8 (by simp)
    have hs10 : upd H9 p (.ins A.C_AccessList dx fs5) s = some (.dK ks) := by rw [upd_ne nsp]; exact hs9
    have K10 : Keep [p] H (upd H9 p (.ins A.C_AccessList dx fs5)) := fun b x e nb => by
      rw [upd_ne (by simpa using nb)]
      exact k9 _ _ (K8 _ _ e nb) (by simp)
    generalize upd H9 p (.ins A.C_AccessList dx fs5) = H10 at hp10 o10 g10 t10 dv10 ds10 hu10 hs10 K10 ⊢
    clear step nsp k9 hp9 hs9 dvs o8 g8 t8 dv8 hu8 K8 hp8
    have fin : ∀ (H11 : Hp) (mv' : V), Keep [] H10 H11 → ((mv' = .non ∧ c.ma = none) ∨ ∃ d, c.ma = some d ∧ IsR A H11 mv' d) → Q .non (upd H11 p (.ins A.C_AccessList dx (putF (Str.ofString "_mask") mv' fs5))) := fun H11 mv' k11 hm' => by
      have hp11 := k11 _ _ hp10 (by simp)
      have eF : putF (Str.ofString "_mask") mv' fs5 = [(Str.ofString "_owner", .ref o), (Str.ofString "_group", .ref g), (Str.ofString "_other", .ref t), (Str.ofString "_users", .ref u), (Str.ofString "_groups", .ref s), (Str.ofString "_mask", mv')] := by
        rw [putF_new (by rw [hF5]; simp; decide +kernel), hF5]
        rfl
      have step : ∀ x d, IsR A H10 x d → IsR A (upd H11 p (.ins A.C_AccessList dx (putF (Str.ofString "_mask") mv' fs5))) x d := fun x d r => IsR.putP (IsR.keep r k11) hp11 c5
      refine q _ (fun b x e nb => ?_) ⟨dx, .ref o, .ref g, .ref t, mv', u, s, ku, ks, by rw [upd_same, eF], step _ _ o10, step _ _ g10, step _ _ t10, ?_, ?_, dv10.imp step, ds10.imp step, ?_⟩ pu ps
      · rw [upd_ne (by simpa using nb)]
        exact k11 _ _ (K10 _ _ e nb) (by simp)
      · rw [upd_ne (ne_of (k11 _ _ hu10 (by simp)) hp11 (fun z => by cases z))]
        exact k11 _ _ hu10 (by simp)
      · rw [upd_ne (ne_of (k11 _ _ hs10 (by simp)) hp11 (fun z => by cases z))]
        exact k11 _ _ hs10 (by simp)
      · rcases hm' with h | ⟨d, e, r⟩
        · exact .inl h
        · exact .inr ⟨d, e, IsR.putP r hp11 c5⟩
    have l5 : fs5.length < 1000 := by rw [hF5]; show 5 < 1000; decide
    rcases hm with ⟨rfl, hma⟩ | ⟨tm, d, rfl, gm, hma⟩
    · have hn : c.us = [] ∧ c.gs = [] := by
        rcases ok.m with ⟨_, a, b⟩ | ⟨d, e, _⟩
        · exact ⟨a, b⟩
        · rw [hma] at e; cases e
      have ekn : ∀ {kk : List (L2.Key × V)} {m : Dm}, DV (IsR A H10) kk (sd m) → (sd m).Perm m → m = [] → kk = [] := fun {kk m} dv pp e => by
        have h1 := dv.len
        rw [pp.length_eq, e] at h1
        exact List.length_eq_zero_iff.mp h1
      obtain rfl := ekn dv10 pu hn.1
      obtain rfl := ekn ds10 ps hn.2
      refine ⟨_, rfl, rfl, _, rfl, ?_⟩
      refine ifT (decide_eq_true rfl) ?_
      refine ⟨_, rfl, p, dx, _, rfl, hp10, by rw [hF5]; rfl, ?_⟩
      refine ⟨p, dx, fs5, u, s, rfl, hp10, by rw [hF5]; rfl, by rw [hF5]; rfl, hu10, hs10, fun H11 k11 => ?_⟩
      refine ⟨_, rfl, p, _, dx, _, rfl, k11 _ _ hp10 (by simp), T.cl_AccessList, T.na_AccessList__mask, l5, ?_⟩
      exact fin H11 .non k11 (.inl ⟨rfl, hma⟩)
    · refine ⟨_, rfl, rfl, _, rfl, ?_⟩
      refine ifF (decide_eq_false (fun z => by cases z)) ?_
      refine ⟨_, rfl, _, _, rfl, .inr ⟨_, rfl, gm, fun r dr H11 nr ndr k11 h11 => ?_⟩⟩
      refine ⟨_, rfl, p, _, dx, _, rfl, k11 _ _ hp10 (by simp), T.cl_AccessList, T.na_AccessList__mask, l5, ?_⟩
      exact fin H11 (.ref r) k11 (.inr ⟨d, hma, r, dr, rfl, h11, good_in gm⟩)
theorem ok_as_digit (T : Txt w K mg A) : FnOk P w K mg base CX0 3 A.f_as_digit A.d_as_digit ["value"] (fun vs H Q _ => ∃ v d, vs = [v] ∧ Part A H v d ∧ Q (.int d) H) := by
  refine T.F_as_digit.ok sc_as_digit (fun vs H Q E h => ?_) (fun cdv A_ outer s_ H vs Q E hr h => ?_)
  · obtain ⟨v, d, rfl, _⟩ := h
    rfl
  · obtain ⟨v, d, rfl, h, q⟩ := h
    refine ⟨_, (pss_cons (ps_if (pt_val (pe_callB (call_isA T.in_Rights) (by rfl) T.b_isinstance (by decide +kernel) (pa_cons (pv 0) (pa_cons (pe_gc rfl T.c_Rights) pa_nil)))) (pss_one (ps_ret (pe_prop (pv 0) T.cl_Rights T.pr_Rights_digit (ok_Rights_digit T) (hr.mono (by decide)) T.B_Rights_digit .nil pass0 rfl))) pss_nil)
  (pss_cons (ps_if (pt_not (pt_val (pe_call (ok__is_letters T) (hr.mono (by decide)) (by rfl) T.g__is_letters T.F__is_letters.kp T.B__is_letters .nil pass0 (pa_cons (pv 0) pa_nil)))) (pss_one ps_never) pss_nil)
  (pss_one (ps_ret (pe_ix (ix_kdictK (K := K) (w := w) rfl rfl) (pe_gc rfl T.c_DIGITS) (pv 0) (fun _ _ => rfl)))))), ?_⟩
    rcases h with ⟨a, dx, rfl, ha, d0, d1⟩ | ⟨t, rfl, g⟩
    · refine ⟨_, rfl, .inl ⟨a, dx, _, rfl, ha, ?_⟩⟩
      refine ⟨true, rfl, ?_⟩
      refine ifT rfl ?_
      refine ⟨_, rfl, a, dx, _, rfl, ha, ?_⟩
      exact ⟨_, d, rfl, ⟨a, dx, rfl, ha, d0, d1⟩, q⟩
    · refine ⟨_, rfl, .inr ⟨_, _, _, _, _, rfl, .own _, .base (.str _), T.kt_Rights_str, ?_⟩⟩
      refine ⟨false, rfl, ?_⟩
      refine ifF rfl ?_
      refine ⟨_, rfl, t, d, rfl, g, ?_⟩
      refine ⟨_, rfl, ?_⟩
      refine ifF rfl ?_
      refine ⟨_, rfl, _, _, _, rfl, rfl, dg_at T g, q⟩
end
end K26
namespace K26
open PySem PySem.Spec PyProof.Rows L2 FR TL
open C8 (pss_cut pe_gc)
open StX (pe_callS2 pa_star)
section
variable {P : Program} {w : World} {K : PySem.W.Frag} {mg : Str → Option Value} {base : Heap} {A : Ads}
set_option pp.maxSteps 120
def root : Str := Str.ofString "root"
def JO (A : Ads) (dj p : Addr) : HO := .ins A.C_Judge dj [(Str.ofString "_people", .ref p)]
theorem ok_Judge___init__ (T : Txt w K mg A) : FnOk P w K mg base CX0 2 A.f_Judge___init__ A.d_Judge___init__ ["self", "people"] (fun vs H Q _ => ∃ j dj p M gs, vs = [.ref j, .ref p] ∧ H j = some (.ins A.C_Judge dj []) ∧ Pp A.C_People H p M gs ∧ ∀ H', Keep [j] H H' → H' j = some (JO A dj p) → Q .non H') := by
  refine T.F_Judge___init__.ok sc_Judge___init__ (fun vs H Q E h => ?_) (fun cdv A_ outer s_ H vs Q E hr h => ?_)
  · obtain ⟨j, dj, p, M, gs, rfl, _⟩ := h
    rfl
  · obtain ⟨j, dj, p, M, gs, rfl, hj, ⟨d, g, dx, kvs, hp⟩, q⟩ := h
    refine ⟨_, (pss_cons (ps_if (pt_not (pt_val (pe_callB (C8.call_isC T.in_People) (by rfl) T.b_isinstance (by decide +kernel) (pa_cons (pv 1) (pa_cons (pe_gc rfl T.c_People) pa_nil))))) (pss_one ps_never) pss_nil)
  (pss_one (ps_fld (pv 0) (pv 1) rfl))), ?_⟩
    refine ⟨_, rfl, p, dx, _, rfl, hp.ob, _, rfl, ?_⟩
    refine ifF rfl ?_
    refine ⟨_, rfl, _, rfl, j, _, dj, _, rfl, hj, T.cl_Judge, T.na_Judge__people, by decide, ?_⟩
    exact q _ keep_upd upd_same
theorem ok_is_owner (T : Txt w K mg A) : FnOk P w K mg base CX0 3 A.f_is_owner A.d_is_owner ["people", "value"] (fun vs H Q _ => ∃ p M gs x, vs = [.ref p, .str x] ∧ Pp A.C_People H p M gs ∧ (x = root ∨ x ∈ M.map (·.1)) ∧ Q (.bl true) H) := by
  refine T.F_is_owner.ok sc_is_owner (fun vs H Q E h => ?_) (fun cdv A_ outer s_ H vs Q E hr h => ?_)
  · obtain ⟨p, M, gs, x, rfl, _⟩ := h
    rfl
  · obtain ⟨p, M, gs, x, rfl, hp, hx, q⟩ := h
    refine ⟨_, (pss_one (ps_ret (pe_or (pe_cmpR op_eq (pv 1) pe_str (nomark _)) (pe_one (pe_cmpR (op_inI T.me_People___contains__.at_ T.me_People___contains__.fn ((ok_People___contains__ T).raw T.B_People___contains__ .nil) (hr.mono (by decide)) pass0) (pv 1) (pv 0) rfl))))), ?_⟩
    refine ⟨_, rfl, rfl, _, rfl, ?_⟩
    by_cases c : x = root
    · refine ifT (decide_eq_true (by rw [c]; rfl)) ?_
      exact q
    · refine ifF (decide_eq_false fun z => c (V.str.inj z)) ?_
      obtain ⟨d, g, dx, kvs, hP⟩ := id hp
      refine ⟨_, rfl, _, rfl, p, dx, _, rfl, hP.ob, p, M, gs, _, rfl, hp, .inl ⟨x, rfl, _, rfl, ?_⟩⟩
      rw [decide_eq_true (hx.resolve_left c)]
      exact q
theorem ok_is_owner_group (T : Txt w K mg A) : FnOk P w K mg base CX0 3 A.f_is_owner_group A.d_is_owner_group ["people", "value"] (fun vs H Q _ => ∃ p M gs x, vs = [.ref p, .str x] ∧ Pp A.C_People H p M gs ∧ (x = root ∨ x ∈ gs) ∧ ∀ H', Keep [] H H' → Q (.bl true) H') := by
  refine T.F_is_owner_group.ok sc_is_owner_group (fun vs H Q E h => ?_) (fun cdv A_ outer s_ H vs Q E hr h => ?_)
  · obtain ⟨p, M, gs, x, rfl, _⟩ := h
    rfl
  · obtain ⟨p, M, gs, x, rfl, hp, hx, q⟩ := h
    refine ⟨_, (pss_one (ps_ret (pe_or (pe_cmpR op_eq (pv 1) pe_str (nomark _)) (pe_one (pe_cmpR op_in_seq (pv 1) (pe_meth0 (pv 0) T.cl_People T.me_People_groups (ok_People_groups T) (hr.mono (by decide)) T.B_People_groups .nil pass0) rfl))))), ?_⟩
    refine ⟨_, rfl, rfl, _, rfl, ?_⟩
    by_cases c : x = root
    · refine ifT (decide_eq_true (by rw [c]; rfl)) ?_
      exact q H Keep.refl
    · refine ifF (decide_eq_false fun z => c (V.str.inj z)) ?_
      obtain ⟨d, g, dx, kvs, hP⟩ := id hp
      refine ⟨_, rfl, _, rfl, p, dx, _, rfl, hP.ob, rfl, p, M, gs, rfl, hp, NewO.mk fun l H1 nl k1 h1 => ?_⟩
      refine ⟨l, _, rfl, .inl (.inl (.inl h1)), rfl, FR.flat_strs _, ?_⟩
      show Q (.bl (inV (.str x) (gs.map V.str))) H1
      rw [in_strs, decide_eq_true (hx.resolve_left c)]
      exact q H1 k1
/-- what a judge is asked about -/
structure Ask (A : Ads) (H : Hp) (j p : Addr) (M : Mp) (gs : List Str) (al : Addr) (c : AcR) (u ho bd : Str) : Prop where
  jo : ∃ dj, H j = some (JO A dj p)
  pp : Pp A.C_People H p M gs
  al : AL A H al c
  u : u ∈ M.map (·.1)
  h : ho = root ∨ ho ∈ M.map (·.1)
  b : bd = root ∨ bd ∈ gs
  pu : (sd c.us).Perm c.us
  pg : (sd c.gs).Perm c.gs
  ok : AccOk c
theorem Ask.keep {H H' : Hp} {j p : Addr} {M : Mp} {gs : List Str} {al : Addr} {c : AcR} {u ho bd : Str} (h : Ask A H j p M gs al c u ho bd) (k : Keep [] H H') : Ask A H' j p M gs al c u ho bd := by
  obtain ⟨dj, hj⟩ := h.jo
  exact ⟨⟨dj, k _ _ hj (by simp)⟩, h.pp.keep k, h.al.keep k, h.u, h.h, h.b, h.pu, h.pg, h.ok⟩
theorem ok_Judge__check (T : Txt w K mg A) : FnOk P w K mg base CX0 4 A.f_Judge__check A.d_Judge__check ["self", "user", "owner", "group", "access"] (fun vs H Q _ => ∃ j p M gs al c u ho bd, vs = [.ref j, .str u, .str ho, .str bd, .ref al] ∧ Ask A H j p M gs al c u ho bd ∧ ∀ H', Keep [] H H' → Q .non H') := by
  refine T.F_Judge__check.ok sc_Judge__check (fun vs H Q E h => ?_) (fun cdv A_ outer s_ H vs Q E hr h => ?_)
  · obtain ⟨j, p, M, gs, al, c, u, ho, bd, rfl, _⟩ := h
    rfl
  · obtain ⟨j, p, M, gs, al, c, u, ho, bd, rfl, a, q⟩ := h
    refine ⟨_, (pss_cons (ps_if (pt_cmpR (op_notInI T.me_People___contains__.at_ T.me_People___contains__.fn ((ok_People___contains__ T).raw T.B_People___contains__ .nil) (hr.mono (by decide)) pass0) (pv 1) (pe_fld (pv 0) rfl) rfl) (pss_one ps_never) pss_nil)
  (pss_cons (ps_if (pt_not (pt_val (pe_call (ok_is_owner T) (hr.mono (by decide)) (by rfl) T.g_is_owner T.F_is_owner.kp T.B_is_owner .nil pass0 (pa_cons (pe_fld (pv 0) rfl) (pa_cons (pv 2) pa_nil))))) (pss_one ps_never) pss_nil)
  (pss_cons (ps_if (pt_not (pt_val (pe_call (ok_is_owner_group T) (hr.mono (by decide)) (by rfl) T.g_is_owner_group T.F_is_owner_group.kp T.B_is_owner_group .nil pass0 (pa_cons (pe_fld (pv 0) rfl) (pa_cons (pv 3) pa_nil))))) (pss_one ps_never) pss_nil)
  (pss_one (ps_if (pt_not (pt_val (pe_callB (C8.call_isC T.in_AccessList) (by rfl) T.b_isinstance (by decide +kernel) (pa_cons (pv 4) (pa_cons (pe_gc rfl T.c_AccessList) pa_nil))))) (pss_one ps_never) pss_nil))))), ?_⟩
    obtain ⟨dj, hj⟩ := a.jo
    obtain ⟨d, g, dx, kvs, hP⟩ := id a.pp
    refine ⟨_, rfl, _, rfl, j, _, dj, _, _, rfl, hj, T.cl_Judge, T.na_Judge__people, rfl, p, dx, _, rfl, hP.ob, ?_⟩
    refine ⟨p, M, gs, _, rfl, a.pp, .inl ⟨u, rfl, _, rfl, ?_⟩⟩
    rw [decide_eq_true a.u]
    refine ⟨_, rfl, ?_⟩
    refine ifF rfl ?_
    refine ⟨_, rfl, j, _, dj, _, _, rfl, hj, T.cl_Judge, T.na_Judge__people, rfl, _, rfl, p, M, gs, ho, rfl, a.pp, a.h, ?_⟩
    refine ⟨_, rfl, ?_⟩
    refine ifF rfl ?_
    refine ⟨_, rfl, j, _, dj, _, _, rfl, hj, T.cl_Judge, T.na_Judge__people, rfl, _, rfl, p, M, gs, bd, rfl, a.pp, a.b, fun H1 k1 => ?_⟩
    refine ⟨_, rfl, ?_⟩
    refine ifF rfl ?_
    obtain ⟨dx2, o, g2, t, mv, u2, s2, ku, ks, hA⟩ := a.al.keep k1
    refine ⟨_, rfl, al, dx2, _, rfl, hA.ob, _, rfl, ?_⟩
    refine ifF rfl ?_
    exact q H1 k1
end
end K26
namespace K26
open PySem PySem.Spec PyProof.Rows L2 FR TL
open C8 (pss_cut pe_gc)
open StX (pe_callS2 pa_star)
abbrev Tr := List (Str × Str × Int)
def TV (H : Hp) (v : V) (e : Str × Str × Int) : Prop := ∃ t, v = .ref t ∧ H t = some (.tup [.str e.1, .str e.2.1, .int e.2.2])
def TL (H : Hp) (l : Addr) (ts : Tr) : Prop := ∃ vs, H l = some (.lst vs) ∧ Paired (TV H) vs ts
theorem TV.keep {H H' : Hp} {v : V} {e : Str × Str × Int} (h : TV H v e) (k : Keep [] H H') : TV H' v e := by
  obtain ⟨t, rfl, h⟩ := h
  exact ⟨t, rfl, k _ _ h (by simp)⟩
theorem TV.put {H : Hp} {D : Addr} {o o' : HO} {v : V} {e : Str × Str × Int} (r : TV H v e) (h : H D = some o) (n : ∀ ys, o ≠ .tup ys) : TV (upd H D o') v e := by
  obtain ⟨q, rfl, hq⟩ := r
  exact ⟨q, rfl, by rw [upd_ne (ne_of hq h fun z => n _ z.symm)]; exact hq⟩
def maskI (c : AcR) : Int := c.ma.getD 7
noncomputable def namedOf (held : List Str) (c : AcR) (m : Int) : Tr := ((srt (c.gs.map (·.1))).filter fun n => decide (n ∈ held)).map fun n => (Str.ofString "named", n, Builtin.bitAnd (dd c.gs n) m)
def groupOf (held : List Str) (c : AcR) (m : Int) (bd : Str) : Tr := if bd ∈ held then [(Str.ofString "group", Str.ofString "", Builtin.bitAnd c.gr m)] else []
noncomputable def caseM (held : List Str) (c : AcR) (m : Int) (u ho bd : Str) : Tr :=
  if u = ho then [(Str.ofString "owner", Str.ofString "", c.ow)]
  else match dget c.us u with
    | some d => [(Str.ofString "user", u, Builtin.bitAnd d m)]
    | none => if groupOf held c m bd ++ namedOf held c m = [] then [(Str.ofString "other", Str.ofString "", c.ot)] else groupOf held c m bd ++ namedOf held c m
noncomputable def caseOf (held : List Str) (c : AcR) (u ho bd : Str) : Tr := caseM held c (maskI c) u ho bd
theorem case_own {held : List Str} {c : AcR} {m : Int} {u ho bd : Str} (h : u = ho) : caseM held c m u ho bd = [(Str.ofString "owner", Str.ofString "", c.ow)] := if_pos h
theorem case_user {held : List Str} {c : AcR} {m : Int} {u ho bd : Str} {d : Int} (h : u ≠ ho) (e : dget c.us u = some d) : caseM held c m u ho bd = [(Str.ofString "user", u, Builtin.bitAnd d m)] := by
  unfold caseM
  rw [if_neg h, e]
theorem case_rest {held : List Str} {c : AcR} {m : Int} {u ho bd : Str} (h : u ≠ ho) (e : dget c.us u = none) : caseM held c m u ho bd = if groupOf held c m bd ++ namedOf held c m = [] then [(Str.ofString "other", Str.ofString "", c.ot)] else groupOf held c m bd ++ namedOf held c m := by
  unfold caseM
  rw [if_neg h, e]
theorem paired_app {α β : Type} {R : α → β → Prop} {a a' : List α} {b b' : List β} (h : Paired R a b) (h' : Paired R a' b') : Paired R (a ++ a') (b ++ b') := by
  induction h with
  | nil => exact h'
  | cons x t ih => exact .cons x ih
theorem paired_snoc {α β : Type} {R : α → β → Prop} {a : List α} {b : List β} {x : α} {y : β} (h : Paired R a b) (r : R x y) : Paired R (a ++ [x]) (b ++ [y]) := paired_app h (.cons r .nil)
theorem filt_snoc {ys : List Str} {i : Nat} {u : Str} {p : Str → Bool} (h : ys[i]? = some u) : (ys.take (i + 1)).filter p = (ys.take i).filter p ++ if p u = true then [u] else [] := by
  rw [List.take_add_one, h]
  show ((ys.take i ++ [u]).filter p) = _
  rw [List.filter_append, List.filter_cons]
  congr 1
theorem one_TL {H0 H1 H2 : Hp} {t l : Addr} {a b : Str} {d : Int} (h1 : H1 t = some (.tup [.str a, .str b, .int d])) (k2 : Keep [] H1 H2) (h2 : H2 l = some (.lst [.ref t])) : TL H2 l [(a, b, d)] := ⟨_, h2, .cons ⟨t, rfl, k2 _ _ h1 (by simp)⟩ .nil⟩
section
variable {P : Program} {w : World} {K : PySem.W.Frag} {mg : Str → Option Value} {base : Heap} {A : Ads}
set_option pp.maxSteps 120
def spFit (A : Ads) : Sp := fun vs H Q _ => ∃ j p M gs al c u ho bd, vs = [.ref p, .str u, .str ho, .str bd, .ref al] ∧ Ask A H j p M gs al c u ho bd ∧ ∀ l H', H l = none → Keep [] H H' → TL H' l (caseOf (mget M u) c u ho bd) → Q (.ref l) H'
theorem ok__fitting (T : Txt w K mg A) : FnOk P w K mg base CX0 4 A.f__fitting A.d__fitting ["people", "user", "owner", "group", "access"] (spFit A) := by
  refine T.F__fitting.ok sc__fitting (fun vs H Q E h => ?_) (fun cdv A_ outer s_ H vs Q E hr h => ?_)
  · obtain ⟨j, p, M, gs, al, c, u, ho, bd, rfl, _⟩ := h
    rfl
  · obtain ⟨j, p, M, gs, al, c, u, ho, bd, rfl, a, q⟩ := h
    refine ⟨_, (pss_cons (ps_if (pt_cmpR op_eq (pv 1) (pv 2) (nomark _)) (pss_one (ps_ret (pe_lstS (pa_cons (pe_tupN (pa_cons pe_str (pa_cons pe_str (pa_cons (pe_prop (pe_prop (pv 4) T.cl_AccessList T.pr_AccessList_owner (ok_AccessList_owner T) (hr.mono (by decide)) T.B_AccessList_owner .nil pass0 rfl) T.cl_Rights T.pr_Rights_digit (ok_Rights_digit T) (hr.mono (by decide)) T.B_Rights_digit .nil pass0 rfl) pa_nil)))) pa_nil)))) pss_nil)
  (pss_cons (ps_set (i := 5) sc__fitting.nd rfl (.inr rfl) (pe_ifExp (pt_cmpR op_isN (pe_prop (pv 4) T.cl_AccessList T.pr_AccessList_mask (ok_AccessList_mask T) (hr.mono (by decide)) T.B_AccessList_mask .nil pass0 rfl) pe_non (nomark _)) (pe_gc rfl T.c_ALL_DIGIT) (pe_prop (pe_prop (pv 4) T.cl_AccessList T.pr_AccessList_mask (ok_AccessList_mask T) (hr.mono (by decide)) T.B_AccessList_mask .nil pass0 rfl) T.cl_Rights T.pr_Rights_digit (ok_Rights_digit T) (hr.mono (by decide)) T.B_Rights_digit .nil pass0 rfl)))
  (pss_cons (ps_set (i := 6) sc__fitting.nd rfl (.inl rfl) (pe_meth0 (pv 4) T.cl_AccessList T.me_AccessList_users (ok_AccessList_users T) (hr.mono (by decide)) T.B_AccessList_users .nil pass0))
  (pss_cons (ps_if (pt_cmp (pc_din (hu_of hr) (pv 1) (pv 6))) (pss_one (ps_ret (pe_lstS (pa_cons (pe_tupN (pa_cons pe_str (pa_cons (pv 1) (pa_cons (pe_op op_and (pe_prop (pe_dget (hu_of hr) (pv 6) (pv 1) (fun _ _ => rfl)) T.cl_Rights T.pr_Rights_digit (ok_Rights_digit T) (hr.mono (by decide)) T.B_Rights_digit .nil pass0 rfl) (pv 5)) pa_nil)))) pa_nil)))) pss_nil)
  (pss_cons (ps_set (i := 7) sc__fitting.nd rfl (.inr rfl) (pe_meth (pv 0) T.cl_People T.me_People_groups_of (ok_People_groups_of T) (hr.mono (by decide)) T.B_People_groups_of .nil pass0 (pa_cons (pv 1) pa_nil)))
  (pss_cons (ps_set (i := 8) sc__fitting.nd rfl (.inr rfl) (pe_meth0 (pv 4) T.cl_AccessList T.me_AccessList_groups (ok_AccessList_groups T) (hr.mono (by decide)) T.B_AccessList_groups .nil pass0))
  (pss_cons (ps_set (i := 9) sc__fitting.nd rfl (.inl rfl) (pe_ifExp (pt_cmpR op_in_seq (pv 3) (pv 7) rfl) (pe_lstS (pa_cons (pe_tupN (pa_cons pe_str (pa_cons pe_str (pa_cons (pe_op op_and (pe_prop (pe_prop (pv 4) T.cl_AccessList T.pr_AccessList_group (ok_AccessList_group T) (hr.mono (by decide)) T.B_AccessList_group .nil pass0 rfl) T.cl_Rights T.pr_Rights_digit (ok_Rights_digit T) (hr.mono (by decide)) T.B_Rights_digit .nil pass0 rfl) (pv 5)) pa_nil)))) pa_nil)) (pe_lstS pa_nil)))
  (pss_cons (ps_set (i := 9) sc__fitting.nd rfl (.inl rfl) (pe_op op_catN (pv 9) (pe_lc (own := [("name", 10)]) (g := gName 10) rfl sc__fitting.nd (pi_list (pe_callB (call_sortedD rfl) (by rfl) T.b_sorted (by decide +kernel) (pa_cons (pv 8) pa_nil))) (blkOk_by (own := [("name", 10)]) (N := N__fitting) (sc := defScope s__fitting) (by decide +kernel)) (fun _ _ _ _ _ => pg_name (i := 10) sc__fitting.nd rfl (Or.inl rfl)) (fun _ _ _ _ _ => (pts_one (pt_cmpR (op_in_seqK (K := K) rfl) (pv 10) (pv 7) rfl))) (fun _ _ _ _ _ => (pe_tupN (pa_cons pe_str (pa_cons (pv 10) (pa_cons (pe_op op_and (pe_prop (pe_dget (hu_of hr) (pv 8) (pv 10) (fun _ _ => rfl)) T.cl_Rights T.pr_Rights_digit (ok_Rights_digit T) (hr.mono (by decide)) T.B_Rights_digit .nil pass0 rfl) (pv 5)) pa_nil))))))))
  (pss_one (ps_ret (pe_ifExp (pt_truth (pv 9) (by intro _; rfl)) (pv 9) (pe_lstS (pa_cons (pe_tupN (pa_cons pe_str (pa_cons pe_str (pa_cons (pe_prop (pe_prop (pv 4) T.cl_AccessList T.pr_AccessList_other (ok_AccessList_other T) (hr.mono (by decide)) T.B_AccessList_other .nil pass0 rfl) T.cl_Rights T.pr_Rights_digit (ok_Rights_digit T) (hr.mono (by decide)) T.B_Rights_digit .nil pass0 rfl) pa_nil)))) pa_nil))))))))))))), ?_⟩
    obtain ⟨dxA, oA, gA, tA, mv, uA, sA, ku, ks, hA⟩ := a.al
    obtain ⟨ro, dro, eo, hro, o0, o1⟩ := hA.ho
    obtain ⟨rg, drg, eg, hrg, g0, g1⟩ := hA.hg
    obtain ⟨rt, drt, et, hrt, t0, t1⟩ := hA.ht
    subst eo eg et
    refine ⟨_, rfl, _, rfl, rfl, _, rfl, ?_⟩
    by_cases c1 : u = ho
    · refine ifT (decide_eq_true (by rw [c1])) ?_
      unfold caseOf at q
      rw [case_own c1] at q
      walk_at "rd"
      refine ⟨al, dxA, _, rfl, hA.ob, al, dxA, c, _, _, _, _, _, _, _, _, rfl, hA, ?_⟩
      refine ⟨ro, dro, _, rfl, hro, _, c.ow, rfl, hA.ho, ?_⟩
      refine ⟨(show 3 ≤ sizeLine by decide), NewO.mk fun t1_ H1 n1 k1 h1 => ?_⟩
      refine ⟨(show 1 ≤ sizeLine by decide), NewS.mk fun l2 H2 n2 s2 k2 h2 => ?_⟩
      exact q l2 H2 (k1.free n2) (k1.trans k2) (one_TL (H0 := H) h1 k2 h2)
    · refine ifF (decide_eq_false fun z => c1 (V.str.inj z)) ?_
      obtain ⟨m, em, mok⟩ : ∃ m, maskI c = m ∧ ((mv = .non ∧ m = 7) ∨ IsR A H mv m) := by
        rcases hA.hm with ⟨e1, e2⟩ | ⟨d, e1, r⟩
        · exact ⟨7, by unfold maskI; rw [e2]; rfl, .inl ⟨e1, rfl⟩⟩
        · exact ⟨d, by unfold maskI; rw [e1]; rfl, .inr r⟩
      unfold caseOf at q
      rw [em] at q
      have main : ∀ F : VK, F (.int m) H → (tIf (tTest (tOp (fun x y H Q => y = V.non ∧ Q (V.bl (decide (x = V.non))) H) (tProp A.C_AccessList (fun vs H Q x => ∃ p dx c o g t mv u s ku ks, vs = [V.ref p] ∧ ALx A H p dx c o g t mv u s ku ks ∧ Q mv H) [] E0 (tVar 4)) (tC V.non))) (tC (V.int 7)) (tProp A.C_Rights (spDig A) [] E0 (tProp A.C_AccessList (fun vs H Q x => ∃ p dx c o g t mv u s ku ks, vs = [V.ref p] ∧ ALx A H p dx c o g t mv u s ku ks ∧ Q mv H) [] E0 (tVar 4)))) (L2.start N__fitting [V.ref p, V.str u, V.str ho, V.str bd, V.ref al]) H F := fun F hF => by
        refine ⟨_, rfl, al, dxA, _, rfl, hA.ob, al, dxA, c, _, _, _, _, _, _, _, _, rfl, hA, rfl, _, rfl, ?_⟩
        rcases mok with ⟨rfl, rfl⟩ | ⟨rm, drm, rfl, hrm, m0, m1⟩
        · refine ifT (decide_eq_true rfl) ?_
          exact hF
        · refine ifF (decide_eq_false fun z => by cases z) ?_
          refine ⟨_, rfl, al, dxA, _, rfl, hA.ob, al, dxA, c, _, _, _, _, _, _, _, _, rfl, hA, ?_⟩
          exact ⟨rm, drm, _, rfl, hrm, _, m, rfl, ⟨rm, drm, rfl, hrm, m0, m1⟩, hF⟩
      refine main _ ?_
      clear main mok em
      have du2 : ∀ x, dget (sd c.us) x = dget c.us x := dget_perm a.ok.u.nd a.pu
      have dg2 : ∀ x, dget (sd c.gs) x = dget c.gs x := dget_perm a.ok.s.nd a.pg
      refine ⟨_, rfl, al, dxA, _, rfl, hA.ob, rfl, al, dxA, c, _, _, _, _, _, _, _, _, rfl, hA, NewO.mk fun ud H1 n1 k1 h1 => ?_⟩
      have hA1 := hA.keep k1
      refine ⟨_, rfl, _, rfl, ud, _, rfl, .inl ⟨ku, Sum.inr u, .inl h1, rfl, rfl⟩, _, rfl, ?_⟩
      rcases hA1.du.val u with ⟨e1, e2, _⟩ | ⟨v, d, e1, e2, ⟨rv, drv, rfl, hrv, v0, v1⟩, _⟩
      · rw [e1]
        refine ifF rfl ?_
        rw [du2] at e2
        rw [case_rest c1 e2] at q
        have pp1 := a.pp.keep k1
        obtain ⟨d_, g_, dx_, kvs_, hP1⟩ := id pp1
        refine ⟨_, rfl, p, dx_, _, rfl, hP1.ob, rfl, _, rfl, ?_⟩
        refine ⟨p, M, gs, u, rfl, pp1, a.u, NewO.mk fun hl H2 n2 k2 h2 => ?_⟩
        have hA2 := hA1.keep k2
        refine ⟨_, rfl, al, dxA, _, rfl, hA2.ob, rfl, al, dxA, c, _, _, _, _, _, _, _, _, rfl, hA2, NewO.mk fun nd H3 n3 k3 h3 => ?_⟩
        have hA3 := hA2.keep k3
        have K3 : Keep [] H H3 := (k1.trans k2).trans k3
        have hl3 := k3 _ _ h2 (by simp)
        have grp : ∀ F : VK, (∀ f H4, Keep [] H3 H4 → H3 f = none → TL H4 f (groupOf (mget M u) c m bd) → F (.ref f) H4) → (tIf (tTest (tOp (rIn K false) (tVar 3) (tVar 7))) (tLstS (tCons (tTupN (tCons (tC (V.str (Str.ofString "group"))) (tCons (tC (V.str (Str.ofString ""))) (tCons (tOp (rI0 fun i j => V.int (Builtin.bitAnd i j)) (tProp A.C_Rights (spDig A) [] E0 (tProp A.C_AccessList (fun vs H Q x => ∃ p dx c o g t mv u s ku ks, vs = [V.ref p] ∧ ALx A H p dx c o g t mv u s ku ks ∧ Q g H) [] E0 (tVar 4))) (tVar 5)) tNil)))) tNil)) (tLstS tNil)) [some (.ref p), some (.str u), some (.str ho), some (.str bd), some (.ref al), some (.int m), some (.ref ud), some (.ref hl), some (.ref nd), none, none] H3 F := fun F hF => by
          refine ⟨_, rfl, _, rfl, hl, _, rfl, .inl (.inl (.inl hl3)), rfl, FR.flat_strs _, _, rfl, ?_⟩
          show if inV (.str bd) ((mget M u).map V.str) = true then _ else _
          rw [in_strs]
          refine ifD (fun c3 => ?_) (fun c3 => ?_)
          · refine ⟨_, rfl, al, dxA, _, rfl, hA3.ob, al, dxA, c, _, _, _, _, _, _, _, _, rfl, hA3, ?_⟩
            refine ⟨rg, drg, _, rfl, K3 _ _ hrg (by simp), _, c.gr, rfl, ⟨rg, drg, rfl, K3 _ _ hrg (by simp), g0, g1⟩, ?_⟩
            refine ⟨_, rfl, _, _, rfl, rfl, ?_⟩
            refine ⟨(show 3 ≤ sizeLine by decide), NewO.mk fun t4 H4 n4 k4 h4 => ?_⟩
            refine ⟨(show 1 ≤ sizeLine by decide), NewS.mk fun l5 H5 n5 s5 k5 h5 => ?_⟩
            refine hF l5 H5 (k4.trans k5) (k4.free n5) ?_
            unfold groupOf
            rw [if_pos c3]
            exact one_TL (H0 := H) h4 k5 h5
          · refine ⟨Nat.zero_le _, NewS.mk fun l5 H5 n5 s5 k5 h5 => ?_⟩
            refine hF l5 H5 k5 n5 ?_
            unfold groupOf
            rw [if_neg c3]
            exact ⟨[], h5, .nil⟩
        refine grp _ fun f H4 k4 nf tf => ?_
        clear grp
        obtain ⟨vf, hf, pf⟩ := tf
        have K4 := K3.trans k4
        have lgs : (sd c.gs).length ≤ 6 := by rw [a.pg.length_eq]; exact a.ok.s.l6
        refine ⟨_, rfl, _, rfl, nd, ks, (sd c.gs).map (·.1), rfl, .inl (k4 _ _ h3 (by simp)), hA.ds.keys, by rw [List.length_map]; omega, fun ys ly py sy n5 => ?_⟩
        have ey : ys = srt (c.gs.map (·.1)) := by rw [srt_eq (py.trans (a.pg.map _)) sy]
        have k5 : Keep [] H4 (upd H4 ly (.lst (ys.map V.str))) := keep_new n5
        have h5 : upd H4 ly (.lst (ys.map V.str)) ly = some (.lst (ys.map V.str)) := upd_same
        generalize upd H4 ly (.lst (ys.map V.str)) = H5 at k5 h5 ⊢
        have K5 := K4.trans k5
        have l6 : ys.length ≤ 6 := by rw [py.length_eq, List.length_map]; exact lgs
        have k35 := k4.trans k5
        refine ⟨ly, rfl, ⟨_, .inl (.inl h5)⟩, fun D hD => ?_⟩
        refine lc_it (walk_list (xs := ys.map V.str)) (fun i H' => ∃ vs, Keep [] H5 H' ∧ H' D = some (.lst vs) ∧ Paired (TV H') vs (((ys.take i).filter fun n => decide (n ∈ mget M u)).map fun n => (Str.ofString "named", n, Builtin.bitAnd (dd c.gs n) m))) ⟨[], keep_new hD, upd_same, .nil⟩ (fun i H' _ h => ?_) (fun i x H6 H7 hi h6 y => ?_) (fun H6 h6 => ?_)
        · obtain ⟨_, k, _⟩ := h
          exact .inl (.inl (k _ _ h5 (by simp)))
        · obtain ⟨vs, k6, hD6, pv6⟩ := h6
          obtain ⟨rfl, hx⟩ := y
          rw [List.getElem?_map] at hx
          obtain ⟨n, hn, rfl⟩ := Option.map_eq_some_iff.mp hx
          have k36 := k35.trans k6
          have hl6 := k36 _ _ hl3 (by simp)
          refine ⟨rfl, ?_⟩
          refine ⟨_, rfl, _, rfl, hl, _, rfl, .inl (.inl (.inl hl6)), rfl, FR.flat_strs _, _, rfl, ?_⟩
          show if inV (.str n) ((mget M u).map V.str) = true then _ else _
          rw [in_strs]
          have hlen : vs.length < sizeLine := by
            refine size_ok ?_
            rw [Paired.length pv6, List.length_map]
            have h1 := List.length_filter_le (fun n => decide (n ∈ mget M u)) (ys.take i)
            have h2 := List.length_take_le' i ys
            omega
          refine ifD (fun c3 => ?_) (fun c3 => ?_)
          · have hA6 := hA3.keep k36
            obtain ⟨_, _, e3⟩ | ⟨v, d, e1', e2', ⟨rv, drv, rfl, hrv, v0, v1⟩, _⟩ := hA6.ds.val n
            · exact absurd (py.mem_iff.mp (List.mem_of_getElem? hn)) e3
            have ed : dd c.gs n = d := by unfold dd; rw [← dg2, e2']; rfl
            refine ⟨_, rfl, _, rfl, _, rfl, nd, _, rfl, .inl ⟨ks, Sum.inr n, .inl (k36 _ _ h3 (by simp)), rfl, e1'.symm⟩, ?_⟩
            refine ⟨rv, drv, _, rfl, hrv, _, d, rfl, ⟨rv, drv, rfl, hrv, v0, v1⟩, ?_⟩
            refine ⟨_, rfl, _, _, rfl, rfl, ?_⟩
            refine ⟨(show 3 ≤ sizeLine by decide), NewO.mk fun t8 H8 n8 k8 h8 => ?_⟩
            have hD8 := k8 _ _ hD6 (by simp)
            refine ⟨vs, hD8, hlen, vs ++ [.ref t8], keep_free (k6.trans k8) hD, upd_same, ?_⟩
            rw [filt_snoc hn, if_pos (decide_eq_true c3), List.map_append]
            have old := Paired.mapP pv6 fun _ _ r => (TV.keep r k8).put (o' := .lst (vs ++ [.ref t8])) hD8 (fun _ z => by cases z)
            have new : TV (upd H8 D (.lst (vs ++ [.ref t8]))) (.ref t8) (Str.ofString "named", n, Builtin.bitAnd d m) := TV.put ⟨t8, rfl, h8⟩ hD8 (fun _ z => by cases z)
            refine paired_snoc (y := (Str.ofString "named", n, Builtin.bitAnd (dd c.gs n) m)) old ?_
            rw [ed]
            exact new
          · refine ⟨vs, k6, hD6, ?_⟩
            rw [filt_snoc hn, if_neg (by rw [decide_eq_false c3]; exact Bool.false_ne_true), List.append_nil]
            exact pv6
        · obtain ⟨vs, k6, hD6, pv6⟩ := h6
          rw [List.length_map, List.take_length, ey] at pv6
          have hf6 := (k5.trans k6) _ _ hf (by simp)
          have pf6 := Paired.mapP pf fun _ _ r => (TV.keep r k5).keep k6
          have lvf : vf.length ≤ 1 := by
            rw [Paired.length pf]
            unfold groupOf
            split <;> simp
          have lvs : vs.length ≤ 6 := by
            rw [Paired.length pv6, List.length_map, ← ey]
            exact Nat.le_trans (List.length_filter_le _ _) l6
          refine ⟨f, D, vf, vs, rfl, rfl, hf6, hD6, size_le (by omega), NewO.mk fun r7 H7 n7 k7 h7 => ?_⟩
          have K6 := K5.trans k6
          have K7 := K6.trans k7
          have pall : Paired (TV H7) (vf ++ vs) (groupOf (mget M u) c m bd ++ namedOf (mget M u) c m) := paired_app (Paired.mapP pf6 fun _ _ r => TV.keep r k7) (Paired.mapP pv6 fun _ _ r => TV.keep r k7)
          refine ⟨_, rfl, !(vf ++ vs).isEmpty, .inl ⟨_, .inl (.inl h7), rfl⟩, ?_⟩
          by_cases e : groupOf (mget M u) c m bd ++ namedOf (mget M u) c m = []
          · rw [if_pos e] at q
            rw [e] at pall
            have ev : vf ++ vs = [] := List.length_eq_zero_iff.mp (Paired.length pall)
            rw [ev]
            refine ifF rfl ?_
            have hA7 := hA.keep K7
            refine ⟨_, rfl, al, dxA, _, rfl, hA7.ob, al, dxA, c, _, _, _, _, _, _, _, _, rfl, hA7, ?_⟩
            refine ⟨rt, drt, _, rfl, K7 _ _ hrt (by simp), _, c.ot, rfl, hA7.ht, ?_⟩
            refine ⟨(show 3 ≤ sizeLine by decide), NewO.mk fun t8 H8 n8 k8 h8 => ?_⟩
            refine ⟨(show 1 ≤ sizeLine by decide), NewS.mk fun l9 H9 n9 s9 k9 h9 => ?_⟩
            exact q l9 H9 ((K7.trans k8).free n9) ((K7.trans k8).trans k9) (one_TL (H0 := H) h8 k9 h9)
          · rw [if_neg e] at q
            have ev : (vf ++ vs).isEmpty = false := by
              cases hv : vf ++ vs with
              | nil =>
                rw [hv] at pall
                exact absurd (List.length_eq_zero_iff.mp (Paired.length pall).symm) e
              | cons x y => rfl
            rw [ev]
            refine ifT rfl ?_
            refine ⟨_, rfl, ?_⟩
            exact q r7 H7 (K6.free n7) K7 ⟨_, h7, pall⟩
      · rw [e1]
        refine ifT rfl ?_
        rw [du2] at e2
        rw [case_user c1 e2] at q
        refine ⟨_, rfl, ?_⟩
        refine ⟨_, rfl, _, rfl, ud, _, rfl, .inl ⟨ku, Sum.inr u, .inl h1, rfl, e1.symm⟩, ?_⟩
        refine ⟨rv, drv, _, rfl, hrv, _, d, rfl, ⟨rv, drv, rfl, hrv, v0, v1⟩, ?_⟩
        refine ⟨_, rfl, _, _, rfl, rfl, ?_⟩
        refine ⟨(show 3 ≤ sizeLine by decide), NewO.mk fun t4 H4 n4 k4 h4 => ?_⟩
        refine ⟨(show 1 ≤ sizeLine by decide), NewS.mk fun l5 H5 n5 s5 k5 h5 => ?_⟩
        exact q l5 H5 ((k1.trans k4).free n5) ((k1.trans k4).trans k5) (one_TL (H0 := H) h4 k5 h5)
end
end K26
namespace K26
open PySem PySem.Spec PyProof.Rows L2 FR TL
open C8 (pss_cut pe_gc)
open StX (pe_callS2 pa_star)
theorem case_len {held : List Str} {c : AcR} {u ho bd : Str} (pg : (sd c.gs).Perm c.gs) (l6 : c.gs.length ≤ 6) : (caseOf held c u ho bd).length ≤ 7 := by
  unfold caseOf caseM
  have ln : (namedOf held c (maskI c)).length ≤ 6 := by
    unfold namedOf
    rw [List.length_map]
    refine Nat.le_trans (List.length_filter_le _ _) ?_
    have h1 := pg.length_eq
    unfold sd at h1
    rw [List.length_map] at h1
    omega
  have lg : (groupOf held c (maskI c) bd).length ≤ 1 := by
    unfold groupOf
    split <;> simp
  split
  · simp
  · split
    · simp
    · split
      · simp
      · rw [List.length_append]; omega
def grants (ts : Tr) (d : Int) : Bool := ts.any fun e => decide (Builtin.bitAnd e.2.2 d = d)
theorem take_map_snoc {ts : Tr} {i : Nat} {e : Str × Str × Int} {α : Type} {f : Str × Str × Int → α} (h : ts[i]? = some e) : (ts.take (i + 1)).map f = (ts.take i).map f ++ [f e] := by
  rw [List.take_add_one, h, List.map_append]
  rfl
theorem tl_get {H : Hp} {vs : List V} {ts : Tr} (h : Paired (TV H) vs ts) {i : Nat} {v : V} (hv : vs[i]? = some v) : ∃ e, ts[i]? = some e ∧ TV H v e := by
  induction h generalizing i with
  | nil => simp at hv
  | @cons x e a b r t ih =>
    cases i with
    | zero =>
      obtain rfl : x = v := by simpa using hv
      exact ⟨e, rfl, r⟩
    | succ i => exact ih (by simpa using hv)
section
variable {P : Program} {w : World} {K : PySem.W.Frag} {mg : Str → Option Value} {base : Heap} {A : Ads}
set_option pp.maxSteps 120
theorem ok_granting_digits (T : Txt w K mg A) : FnOk P w K mg base CX0 5 A.f_granting_digits A.d_granting_digits ["people", "user", "owner", "group", "access"] (fun vs H Q _ => ∃ j p M gs al c u ho bd, vs = [.ref p, .str u, .str ho, .str bd, .ref al] ∧ Ask A H j p M gs al c u ho bd ∧ NewO (.tup ((caseOf (mget M u) c u ho bd).map fun e => V.int e.2.2)) Q H) := by
  refine T.F_granting_digits.ok sc_granting_digits (fun vs H Q E h => ?_) (fun cdv A_ outer s_ H vs Q E hr h => ?_)
  · obtain ⟨j, p, M, gs, al, c, u, ho, bd, rfl, _⟩ := h
    rfl
  · obtain ⟨j, p, M, gs, al, c, u, ho, bd, rfl, a, q⟩ := h
    refine ⟨_, (pss_one (ps_ret (pe_callTy call_tuple_of (by rfl) T.b_tuple (by decide +kernel) (pa_cons (pe_lc (own := [("kind", 5), ("name", 6), ("digit", 7)]) (g := gTup K 3 (gCons (gName 5) (gCons (gName 6) (gCons (gName 7) gNil)))) rfl sc_granting_digits.nd (pi_list (pe_call (ok__fitting T) (hr.mono (by decide)) (by rfl) T.g__fitting T.F__fitting.kp T.B__fitting .nil pass0 (pa_cons (pv 0) (pa_cons (pv 1) (pa_cons (pv 2) (pa_cons (pv 3) (pa_cons (pv 4) pa_nil))))))) (blkOk_by (own := [("kind", 5), ("name", 6), ("digit", 7)]) (N := N_granting_digits) (sc := defScope s_granting_digits) (by decide +kernel)) (fun _ _ _ _ _ => (pg_tup rfl (pgs_cons (pg_name (i := 5) sc_granting_digits.nd rfl (.inl rfl)) (pgs_cons (pg_name (i := 6) sc_granting_digits.nd rfl (.inl rfl)) (pgs_cons (pg_name (i := 7) sc_granting_digits.nd rfl (.inl rfl)) pgs_nil))))) (fun _ _ _ _ _ => pts_nil) (fun _ _ _ _ _ => (pv 7))) pa_nil)))), ?_⟩
    have l7 := case_len (held := mget M u) (u := u) (ho := ho) (bd := bd) a.pg a.ok.s.l6
    refine ⟨_, rfl, _, rfl, _, rfl, _, rfl, _, rfl, j, p, M, gs, al, c, u, ho, bd, rfl, a, fun l H1 nl k1 tl1 => ?_⟩
    obtain ⟨vs, h1, pv⟩ := tl1
    have lv := Paired.length pv
    generalize caseOf (mget M u) c u ho bd = ts at q l7 pv lv
    refine ⟨l, rfl, ⟨_, .inl (.inl h1)⟩, fun D hD => ?_⟩
    refine lc_it (walk_list (xs := vs)) (fun i H' => Keep [] H1 H' ∧ H' D = some (.lst ((ts.take i).map fun e => V.int e.2.2))) ⟨keep_new hD, upd_same⟩ (fun i H' _ h => .inl (.inl (h.1 _ _ h1 (by simp)))) (fun i x H2 H3 hi h2 y => ?_) (fun H2 h2 => ?_)
    · obtain ⟨rfl, hx⟩ := y
      obtain ⟨e, he, t, rfl, ht⟩ := tl_get pv hx
      refine ⟨t, _, rfl, .inl (.inl (h2.1 _ _ ht (by simp))), rfl, ?_⟩
      walk_at "rd"
      refine ⟨_, h2.2, size_ok (by rw [List.length_map, List.length_take]; omega), keep_free h2.1 hD, ?_⟩
      rw [upd_same, take_map_snoc he]
    · obtain ⟨k2, h2⟩ := h2
      rw [lv, List.take_length] at h2
      refine ⟨D, _, rfl, .inl ⟨.inl (.inl h2), fun t3 n3 => ?_⟩⟩
      exact q.to t3 _ ((k1.trans k2).free n3) ((k1.trans k2).trans (keep_new n3)) upd_same
def spCall (A : Ads) : Sp := fun vs H Q _ => ∃ j p M gs al c u ho bd lv d, vs = [.ref j, .str u, .str ho, .str bd, .ref al, lv] ∧ Ask A H j p M gs al c u ho bd ∧ Part A H lv d ∧ ∀ H', Keep [] H H' → Q (.bl (grants (caseOf (mget M u) c u ho bd) d)) H'
theorem ok_Judge___call__ (T : Txt w K mg A) : FnOk P w K mg base CX0 6 A.f_Judge___call__ A.d_Judge___call__ ["self", "user", "owner", "group", "access", "letters"] (spCall A) := by
  refine T.F_Judge___call__.ok sc_Judge___call__ (fun vs H Q E h => ?_) (fun cdv A_ outer s_ H vs Q E hr h => ?_)
  · obtain ⟨j, p, M, gs, al, c, u, ho, bd, lv, d, rfl, _⟩ := h
    rfl
  · obtain ⟨j, p, M, gs, al, c, u, ho, bd, lv, d, rfl, a, hl, q⟩ := h
    refine ⟨_, (pss_cons (ps_expr (pe_meth (pv 0) T.cl_Judge T.me_Judge__check (ok_Judge__check T) (hr.mono (by decide)) T.B_Judge__check .nil pass0 (pa_cons (pv 1) (pa_cons (pv 2) (pa_cons (pv 3) (pa_cons (pv 4) pa_nil))))))
  (pss_cons (ps_set (i := 6) sc_Judge___call__.nd rfl (.inr rfl) (pe_call (ok_as_digit T) (hr.mono (by decide)) (by rfl) T.g_as_digit T.F_as_digit.kp T.B_as_digit .nil pass0 (pa_cons (pv 5) pa_nil)))
  (pss_one (ps_ret (pe_callB (cr_any rfl) (by rfl) T.b_any (by decide +kernel) (pa_cons (pe_lc (own := [("digit", 7)]) (g := gName 7) rfl sc_Judge___call__.nd (pi_tup (pe_call (ok_granting_digits T) (hr.mono (by decide)) (by rfl) T.g_granting_digits T.F_granting_digits.kp T.B_granting_digits .nil pass0 (pa_cons (pe_fld (pv 0) rfl) (pa_cons (pv 1) (pa_cons (pv 2) (pa_cons (pv 3) (pa_cons (pv 4) pa_nil))))))) (blkOk_by (own := [("digit", 7)]) (N := N_Judge___call__) (sc := defScope s_Judge___call__) (by decide +kernel)) (fun _ _ _ _ _ => pg_name (i := 7) sc_Judge___call__.nd rfl (Or.inl rfl)) (fun _ _ _ _ _ => pts_nil) (fun _ _ _ _ _ => (pe_cmpR op_eq (pe_op op_and (pv 7) (pv 6)) (pv 6) (nomark _)))) pa_nil)))))), ?_⟩
    have l7 := case_len (held := mget M u) (u := u) (ho := ho) (bd := bd) a.pg a.ok.s.l6
    obtain ⟨dj, hj⟩ := a.jo
    refine ⟨_, rfl, j, dj, _, rfl, hj, rfl, _, rfl, _, rfl, _, rfl, _, rfl, ?_⟩
    refine ⟨j, p, M, gs, al, c, u, ho, bd, rfl, a, fun H1 k1 => ?_⟩
    refine ⟨_, rfl, _, d, rfl, hl.keep k1, ?_⟩
    have a1 := a.keep k1
    refine ⟨_, rfl, j, _, dj, _, _, rfl, k1 _ _ hj (by simp), T.cl_Judge, T.na_Judge__people, rfl, ?_⟩
    refine ⟨_, rfl, _, rfl, _, rfl, _, rfl, j, p, M, gs, al, c, u, ho, bd, rfl, a1, NewO.mk fun t H2 n2 k2 h2 => ?_⟩
    generalize caseOf (mget M u) c u ho bd = ts at q l7 h2
    refine ⟨t, rfl, ⟨_, .inl (.inl h2)⟩, fun D hD => ?_⟩
    refine lc_it (walk_tup (xs := ts.map fun e => V.int e.2.2)) (fun i H' => Keep [] H2 H' ∧ H' D = some (.lst ((ts.take i).map fun e => V.bl (decide (Builtin.bitAnd e.2.2 d = d))))) ⟨keep_new hD, upd_same⟩ (fun i H' _ h => .inl (.inl (h.1 _ _ h2 (by simp)))) (fun i x H3 H4 hi h3 y => ?_) (fun H3 h3 => ?_)
    · obtain ⟨rfl, hx⟩ := y
      rw [List.getElem?_map] at hx
      obtain ⟨e, he, rfl⟩ := Option.map_eq_some_iff.mp hx
      have li : i < ts.length := by rw [List.length_map] at hi; exact hi
      walk_at "rd"
      refine ⟨_, h3.2, size_ok (by rw [List.length_map, List.length_take]; omega), keep_free h3.1 hD, ?_⟩
      rw [upd_same, take_map_snoc he]
      show some (HO.lst (_ ++ [V.bl (decide (V.int (Builtin.bitAnd e.2.2 d) = V.int d))])) = _
      rw [show decide (V.int (Builtin.bitAnd e.2.2 d) = V.int d) = decide (Builtin.bitAnd e.2.2 d = d) by simp]
    · obtain ⟨k3, h3⟩ := h3
      rw [List.length_map, List.take_length] at h3
      refine ⟨D, ts.map fun e => decide (Builtin.bitAnd e.2.2 d = d), rfl, .inl (.inl (by rw [List.map_map]; exact h3)), ?_⟩
      have e : (ts.map fun e => decide (Builtin.bitAnd e.2.2 d = d)).any id = grants ts d := by
        unfold grants
        rw [List.any_map]
        rfl
      rw [e]
      exact q H3 ((k1.trans k2).trans k3)
end
end K26
namespace K26
open PySem PySem.Spec PyProof.Rows L2 FR TL
open C8 (pss_cut pe_gc)
open StX (pe_callS2 pa_star)
def RI (x : V) (d : Int) : Prop := x = .int d
def mV (c : AcR) : V := match c.ma with | none => .non | some d => .int d
def sK5 (m : V) (d0 d1 d2 : Int) (u g : Addr) : List (L2.Key × V) := [(Sum.inr (Str.ofString "mask"), m), (Sum.inr (Str.ofString "owner"), .int d0), (Sum.inr (Str.ofString "group"), .int d1), (Sum.inr (Str.ofString "other"), .int d2), (Sum.inr (Str.ofString "users"), .ref u), (Sum.inr (Str.ofString "groups"), .ref g)]
structure SDx (H : Hp) (s : Addr) (c : AcR) (kvs : List (L2.Key × V)) (u g : Addr) (ku kg : List (L2.Key × V)) : Prop where
  hs : H s = some (.dK kvs)
  vm : valV kvs (Sum.inr (Str.ofString "mask")) = some (mV c)
  vo : valV kvs (Sum.inr (Str.ofString "owner")) = some (.int c.ow)
  vg : valV kvs (Sum.inr (Str.ofString "group")) = some (.int c.gr)
  vt : valV kvs (Sum.inr (Str.ofString "other")) = some (.int c.ot)
  vu : valV kvs (Sum.inr (Str.ofString "users")) = some (.ref u)
  vs : valV kvs (Sum.inr (Str.ofString "groups")) = some (.ref g)
  hu : H u = some (.dK ku)
  hg : H g = some (.dK kg)
  du : DV RI ku c.us
  dg : DV RI kg c.gs
  ek : kvs = sK5 (mV c) c.ow c.gr c.ot u g
def SD (H : Hp) (s : Addr) (c : AcR) : Prop := ∃ kvs u g ku kg, SDx H s c kvs u g ku kg
theorem SDx.keep {H H' : Hp} {s : Addr} {c : AcR} {kvs : List (L2.Key × V)} {u g : Addr} {ku kg : List (L2.Key × V)} (h : SDx H s c kvs u g ku kg) (k : Keep [] H H') : SDx H' s c kvs u g ku kg :=
  ⟨k _ _ h.hs (by simp), h.vm, h.vo, h.vg, h.vt, h.vu, h.vs, k _ _ h.hu (by simp), k _ _ h.hg (by simp), h.du, h.dg, h.ek⟩
theorem SD.keep {H H' : Hp} {s : Addr} {c : AcR} (h : SD H s c) (k : Keep [] H H') : SD H' s c := by
  obtain ⟨kvs, u, g, ku, kg, h⟩ := h
  exact ⟨kvs, u, g, ku, kg, h.keep k⟩
/-- the members, perhaps locked -/
structure MR (H : Hp) (a : Addr) (es : Es) : Prop where
  hd : Rd H a (.dK (dEs es))
  hl : ∀ e ∈ es, H e.1 = some (.lst (e.2.2.map V.str))
theorem MR.keep {H H' : Hp} {a : Addr} {es : Es} (h : MR H a es) (k : Keep [] H H') : MR H' a es := by
  refine ⟨?_, fun e he => k _ _ (h.hl e he) (by simp)⟩
  rcases h.hd with h | ⟨o, h⟩
  · exact .inl (k _ _ h (by simp))
  · exact .inr ⟨o, k _ _ h (by simp)⟩
theorem MR.dm {H : Hp} {a : Addr} {es : Es} (h : MR H a es) : DM (RL H) (dEs es) (mEs es) := dm_es fun e he => ⟨e.1, rfl, h.hl e he⟩
theorem ML.mr {H : Hp} {a : Addr} {es : Es} (h : ML H a es) : MR H a es := ⟨.inl h.hd, h.hl⟩
section
variable {P : Program} {w : World} {K : PySem.W.Frag} {mg : Str → Option Value} {base : Heap} {A : Ads}
set_option pp.maxSteps 120
theorem ifQ' {A B : Prop} {b c : Bool} (h : b = c) (h1 : c = true → A) (h2 : c = false → B) : if b = true then A else B := by
  rw [h]
  exact ifB h1 h2
theorem ok_text (T : Txt w K mg A) : FnOk P w K mg base CX0 1 A.f_text A.d_text ["_law_digit"] (fun vs H Q _ => ∃ d : Int, vs = [.int d] ∧ 0 ≤ d ∧ d ≤ 7 ∧ ∀ H', Keep [] H H' → Q (.str (lw d)) H') := by
  refine T.F_text.ok sc_text (fun vs H Q E h => ?_) (fun cdv A_ outer s_ H vs Q E hr h => ?_)
  · obtain ⟨d, rfl, _⟩ := h
    rfl
  · obtain ⟨d, rfl, d0, d1, q⟩ := h
    refine ⟨_, (pss_one (ps_ret (pe_join pe_str (pe_lc (own := [("_law_k", 1)]) (g := gName 1) rfl sc_text.nd (pi_range1 (by rfl) T.b_range (pa_cons pe_int pa_nil)) (blkOk_by (own := [("_law_k", 1)]) (N := N_text) (sc := defScope s_text) (by decide +kernel)) (fun _ _ _ _ _ => pg_name (i := 1) sc_text.nd rfl (Or.inl rfl)) (fun _ _ _ _ _ => (pts_one (pt_cmpR op_eq (pe_op op_and (pe_op op_shr (pv 0) (pe_op op_sub pe_int (pv 1))) pe_int) pe_int (nomark _)))) (fun _ _ _ _ _ => (pe_ix ix_str pe_str (pv 1) (fun _ _ => rfl))))))), ?_⟩
    walk_at "rd"
    intro D hD
    refine lc_rg (fun i H' => Keep [] H H' ∧ H' D = some (.lst (((keysL.take i).filter (bit d)).map V.str))) ⟨keep_new hD, upd_same⟩ (fun i H2 hi h2 => ?_) (fun H2 h2 => ?_)
    · obtain ⟨k2, h2⟩ := h2
      have hi3 : i < 3 := hi
      refine ⟨rfl, ?_⟩
      refine ⟨_, rfl, _, rfl, _, _, rfl, rfl, _, _, rfl, rfl, (show (0 : Int) ≤ 2 - (0 + (i : Int)) by omega), _, _, rfl, rfl, rfl, _, rfl, ?_⟩
      have i3 : i = 0 ∨ i = 1 ∨ i = 2 := by omega
      rcases i3 with rfl | rfl | rfl
      · refine ifQ' (eight (F := fun d => decide (V.int (Builtin.bitAnd (d / 2 ^ (2 - ((0 : Int) + ((0 : Nat) : Int))).toNat) 1) = V.int 1) = bit d "r") (by decide +kernel) d0 d1) (fun c => ?_) (fun c => ?_)
        · refine ⟨_, rfl, _, _, 114, rfl, rfl, size_le (by decide +kernel), (show atI (Str.ofString "rwx").cps.toList ((0 : Nat) : Int) = _ from atI_nat (by decide +kernel)), _, h2, (show 0 < sizeLine by decide), keep_free k2 hD, ?_⟩
          rw [upd_same]
          simp [keysL, c]
          decide +kernel
        · refine ⟨k2, ?_⟩
          rw [h2]
          simp [keysL, c]
      · refine ifQ' (eight (F := fun d => decide (V.int (Builtin.bitAnd (d / 2 ^ (2 - ((0 : Int) + ((1 : Nat) : Int))).toNat) 1) = V.int 1) = bit d "w") (by decide +kernel) d0 d1) (fun c => ?_) (fun c => ?_)
        · refine ⟨_, rfl, _, _, 119, rfl, rfl, size_le (by decide +kernel), (show atI (Str.ofString "rwx").cps.toList ((1 : Nat) : Int) = _ from atI_nat (by decide +kernel)), _, h2, size_ok (by rw [List.length_map]; exact Nat.le_trans (List.length_filter_le _ _) (by decide)), keep_free k2 hD, ?_⟩
          rw [upd_same]
          have : (⟨#[119]⟩ : Str) = "w" := by decide +kernel
          by_cases b : bit d "r" = true
          · simp [keysL, c, b, this]
          · simp [keysL, c, b, this]
        · refine ⟨k2, ?_⟩
          rw [h2]
          by_cases b : bit d "r" = true
          · simp [keysL, c, b]
          · simp [keysL, c, b]
      · refine ifQ' (eight (F := fun d => decide (V.int (Builtin.bitAnd (d / 2 ^ (2 - ((0 : Int) + ((2 : Nat) : Int))).toNat) 1) = V.int 1) = bit d "x") (by decide +kernel) d0 d1) (fun c => ?_) (fun c => ?_)
        · refine ⟨_, rfl, _, _, 120, rfl, rfl, size_le (by decide +kernel), (show atI (Str.ofString "rwx").cps.toList ((2 : Nat) : Int) = _ from atI_nat (by decide +kernel)), _, h2, size_ok (by rw [List.length_map]; exact Nat.le_trans (List.length_filter_le _ _) (by decide)), keep_free k2 hD, ?_⟩
          rw [upd_same]
          have : (⟨#[120]⟩ : Str) = "x" := by decide +kernel
          by_cases b : bit d "r" = true <;> by_cases b2 : bit d "w" = true <;> simp [keysL, c, b, b2, this]
        · refine ⟨k2, ?_⟩
          rw [h2]
          by_cases b : bit d "r" = true <;> by_cases b2 : bit d "w" = true <;> simp [keysL, c, b, b2]
    · obtain ⟨k2, h2⟩ := h2
      refine ⟨_, _, keysL.filter (bit d), rfl, rfl, .inl (.inl (.inl h2)), eight (F := fun d => ((keysL.filter (bit d)).map (fun x => x.length)).sum + (keysL.filter (bit d)).length * (Str.ofString "").length ≤ 16777216) (by decide +kernel) d0 d1, ?_⟩
      have e : Txt.join (Str.ofString "") (keysL.filter (bit d)) = lw d := eight (F := fun d => Txt.join (Str.ofString "") (keysL.filter (bit d)) = lw d) (by decide +kernel) d0 d1
      rw [e]
      exact q H2 k2
def tupD (e : Str × Str × Int) : PyData := .tuple [.str e.1, .str e.2.1, .int e.2.2]
def AscT (ts : Tr) : Prop := ∀ e ∈ ts, Asc e.1 ∧ Asc e.2.1
theorem lay_tr : ∀ {ts : Tr}, AscT ts → PyData.canLayAll0 (ts.map tupD) = true
  | [], _ => rfl
  | e :: r, h => by
    obtain ⟨h1, h2⟩ := h e List.mem_cons_self
    rw [List.map_cons, PyData.canLayAll0, lay_tr fun x hx => h x (List.mem_cons_of_mem _ hx)]
    unfold tupD
    rw [PyData.canLay0, PyData.canLayAll0, PyData.canLayAll0, PyData.canLayAll0, PyData.canLayAll0, PyData.canLay0, PyData.canLay0, PyData.canLay0, str_ok h1, str_ok h2]
    rfl
theorem depth_tr : ∀ ts : Tr, PyData.depthAll (ts.map tupD) ≤ 1
  | [] => by decide
  | e :: r => by
    have ih := depth_tr r
    rw [List.map_cons, PyData.depthAll]
    have : PyData.depth (tupD e) = 1 := by unfold tupD; rfl
    rw [this]
    omega
theorem shaped_tr {ts : Tr} (h : AscT ts) : SeqAt.shaped (.list (ts.map tupD)) = true := by
  unfold SeqAt.shaped
  rw [PyData.canLay0, lay_tr h, PyData.depth]
  have := depth_tr ts
  simp
  omega
theorem dp_tr {K : PySem.W.Frag} {H : Hp} {vs : List V} {ts : Tr} (h : Paired (TV H) vs ts) : DpAll K H vs (ts.map tupD) := by
  induction h with
  | nil => exact .nil
  | cons r t ih =>
    obtain ⟨q, rfl, hq⟩ := r
    exact .cons (.tup (.inl (.inl hq)) (.cons (.str _) (.cons (.str _) (.cons (.int _) .nil)))) ih
theorem eqv_trnil (ts : Tr) : PyData.eqv (.list (ts.map tupD)) (.list []) = decide (ts = []) := by
  cases ts with
  | nil => rfl
  | cons e r => rfl
def spCase (A : Ads) : Sp := fun vs H Q _ => ∃ a es s c u ho bd, vs = [.ref a, .str u, .str ho, .str bd, .ref s] ∧ MR H a es ∧ Mk (mEs es) ∧ SD H s c ∧ AccOk c ∧ u ∈ (mEs es).map (·.1) ∧ (sd c.gs).Perm c.gs ∧ ∀ l H', H l = none → Keep [] H H' → TL H' l (caseOf (mget (mEs es) u) c u ho bd) → Q (.ref l) H'
theorem ok_case (T : Txt w K mg A) : FnOk P w K mg base CX0 1 A.f_case A.d_case ["_law_members_here", "_law_user", "_law_owner", "_law_group", "_law_some"] (spCase A) := by
  refine T.F_case.ok sc_case (fun vs H Q E h => ?_) (fun cdv A_ outer s_ H vs Q E hr h => ?_)
  · obtain ⟨a, es, s, c, u, ho, bd, rfl, _⟩ := h
    rfl
  · obtain ⟨a, es, s, c, u, ho, bd, rfl, mr, gd, ⟨kvs, su, sg, ku, kg, S⟩, ok, hu, pg, q⟩ := h
    refine ⟨_, (pss_cons (ps_set (i := 5) sc_case.nd rfl (.inl rfl) (pe_ifExp (pt_cmpR op_isN (pe_dget (hu_of hr) (pv 4) pe_str (fun _ _ => rfl)) pe_non (nomark _)) pe_int (pe_dget (hu_of hr) (pv 4) pe_str (fun _ _ => rfl))))
  (pss_cons (ps_if (pt_cmpR op_eq (pv 1) (pv 2) (nomark _)) (pss_one (ps_ret (pe_lstS (pa_cons (pe_tupN (pa_cons pe_str (pa_cons pe_str (pa_cons (pe_dget (hu_of hr) (pv 4) pe_str (fun _ _ => rfl)) pa_nil)))) pa_nil)))) pss_nil)
  (pss_cons (ps_if (pt_cmp (pc_din (hu_of hr) (pv 1) (pe_dget (hu_of hr) (pv 4) pe_str (fun _ _ => rfl)))) (pss_one (ps_ret (pe_lstS (pa_cons (pe_tupN (pa_cons pe_str (pa_cons (pv 1) (pa_cons (pe_op op_and (pe_dget (hu_of hr) (pe_dget (hu_of hr) (pv 4) pe_str (fun _ _ => rfl)) (pv 1) (fun _ _ => rfl)) (pv 5)) pa_nil)))) pa_nil)))) pss_nil)
  (pss_cons (ps_set (i := 6) sc_case.nd rfl (.inl rfl) (pe_ifExp (pt_cmpR op_in_seq (pv 3) (pe_dget (hu_of hr) (pv 0) (pv 1) (fun _ _ => rfl)) rfl) (pe_lstS (pa_cons (pe_tupN (pa_cons pe_str (pa_cons pe_str (pa_cons (pe_op op_and (pe_dget (hu_of hr) (pv 4) pe_str (fun _ _ => rfl)) (pv 5)) pa_nil)))) pa_nil)) (pe_lstS pa_nil)))
  (pss_cons (ps_for PassesOwn.never rfl (pi_list (pe_callB (call_sortedD rfl) (by rfl) T.b_sorted (by decide +kernel) (pa_cons (pe_dget (hu_of hr) (pv 4) pe_str (fun _ _ => rfl)) pa_nil))) (pg_name (i := 7) sc_case.nd rfl (.inl rfl)) (pss_one (ps_if (pt_cmpR op_in_seq (pv 7) (pe_dget (hu_of hr) (pv 0) (pv 1) (fun _ _ => rfl)) rfl) (pss_one (ps_expr (pe_bm PySem.F.plainAttrs_list PySem.F.slot_list_append PySem.F.type_list_append mt_appN (pv 6) (pa_cons (pe_tupN (pa_cons pe_str (pa_cons (pv 7) (pa_cons (pe_op op_and (pe_dget (hu_of hr) (pe_dget (hu_of hr) (pv 4) pe_str (fun _ _ => rfl)) (pv 7) (fun _ _ => rfl)) (pv 5)) pa_nil)))) pa_nil)))) pss_nil)))
  (pss_one (ps_ret (pe_ifExp (pt_cmpR (op_neD hr.units) (pv 6) (pe_lstS pa_nil) (nomark _)) (pv 6) (pe_lstS (pa_cons (pe_tupN (pa_cons pe_str (pa_cons pe_str (pa_cons (pe_dget (hu_of hr) (pv 4) pe_str (fun _ _ => rfl)) pa_nil)))) pa_nil)))))))))), ?_⟩
    have main : ∀ F : VK, F (.int (maskI c)) H → (tIf (tTest (tOp (fun x y H Q => y = V.non ∧ Q (V.bl (decide (x = V.non))) H) (tDGet (tVar 4) (tC (V.str (Str.ofString "mask")))) (tC V.non))) (tC (V.int 7)) (tDGet (tVar 4) (tC (V.str (Str.ofString "mask"))))) (L2.start N_case [V.ref a, V.str u, V.str ho, V.str bd, V.ref s]) H F := fun F hF => by
      refine ⟨_, rfl, s, _, rfl, .inl ⟨kvs, Sum.inr (Str.ofString "mask"), .inl S.hs, rfl, S.vm.symm⟩, rfl, _, rfl, ?_⟩
      cases e : c.ma with
      | none =>
        have e1 : mV c = .non := by unfold mV; rw [e]
        have e2 : maskI c = 7 := by unfold maskI; rw [e]; rfl
        rw [e1]
        rw [e2] at hF
        refine ifT (decide_eq_true rfl) ?_
        exact hF
      | some d =>
        have e1 : mV c = .int d := by unfold mV; rw [e]
        have e2 : maskI c = d := by unfold maskI; rw [e]; rfl
        rw [e1]
        rw [e2] at hF
        refine ifF (decide_eq_false fun z => by cases z) ?_
        exact ⟨_, rfl, s, _, rfl, .inl ⟨kvs, Sum.inr (Str.ofString "mask"), .inl S.hs, rfl, by rw [S.vm, e1]⟩, hF⟩
    refine main _ ?_
    clear main
    refine ⟨_, rfl, _, rfl, rfl, _, rfl, ?_⟩
    by_cases c1 : u = ho
    · refine ifT (decide_eq_true (by rw [c1])) ?_
      unfold caseOf at q
      rw [case_own c1] at q
      refine ⟨_, rfl, s, _, rfl, .inl ⟨kvs, Sum.inr (Str.ofString "owner"), .inl S.hs, rfl, S.vo.symm⟩, ?_⟩
      refine ⟨(show 3 ≤ sizeLine by decide), NewO.mk fun t1_ H1 n1 k1 h1 => ?_⟩
      refine ⟨(show 1 ≤ sizeLine by decide), NewS.mk fun l2 H2 n2 s2 k2 h2 => ?_⟩
      exact q l2 H2 (k1.free n2) (k1.trans k2) (one_TL (H0 := H) h1 k2 h2)
    · refine ifF (decide_eq_false fun z => c1 (V.str.inj z)) ?_
      unfold caseOf at q
      refine ⟨_, rfl, _, rfl, s, _, rfl, .inl ⟨kvs, Sum.inr (Str.ofString "users"), .inl S.hs, rfl, S.vu.symm⟩, su, _, rfl, .inl ⟨ku, Sum.inr u, .inl S.hu, rfl, rfl⟩, _, rfl, ?_⟩
      rcases S.du.val u with ⟨e1, e2, _⟩ | ⟨v, d, e1, e2, hv, _⟩
      · rw [e1]
        refine ifF rfl ?_
        rw [case_rest c1 e2] at q
        obtain ⟨v, hv, hl, rfl, hhl⟩ := mr.dm.val hu
        have grp : ∀ F : VK, (∀ f H4, Keep [] H H4 → H f = none → TL H4 f (groupOf (mget (mEs es) u) c (maskI c) bd) → F (.ref f) H4) → (tIf (tTest (tOp (rIn K false) (tVar 3) (tDGet (tVar 0) (tVar 1)))) (tLstS (tCons (tTupN (tCons (tC (V.str (Str.ofString "group"))) (tCons (tC (V.str (Str.ofString ""))) (tCons (tOp (rI0 fun i j => V.int (Builtin.bitAnd i j)) (tDGet (tVar 4) (tC (V.str (Str.ofString "group")))) (tVar 5)) tNil)))) tNil)) (tLstS tNil)) [some (.ref a), some (.str u), some (.str ho), some (.str bd), some (.ref s), some (.int (maskI c)), none, none] H F := fun F hF => by
          refine ⟨_, rfl, _, rfl, _, rfl, a, _, rfl, .inl ⟨_, Sum.inr u, mr.hd, rfl, hv.symm⟩, hl, _, rfl, .inl (.inl (.inl hhl)), rfl, FR.flat_strs _, _, rfl, ?_⟩
          show if inV (.str bd) ((mget (mEs es) u).map V.str) = true then _ else _
          rw [in_strs]
          refine ifD (fun c3 => ?_) (fun c3 => ?_)
          · refine ⟨_, rfl, s, _, rfl, .inl ⟨kvs, Sum.inr (Str.ofString "group"), .inl S.hs, rfl, S.vg.symm⟩, _, rfl, _, _, rfl, rfl, ?_⟩
            refine ⟨(show 3 ≤ sizeLine by decide), NewO.mk fun t4 H4 n4 k4 h4 => ?_⟩
            refine ⟨(show 1 ≤ sizeLine by decide), NewS.mk fun l5 H5 n5 s5 k5 h5 => ?_⟩
            refine hF l5 H5 (k4.trans k5) (k4.free n5) ?_
            unfold groupOf
            rw [if_pos c3]
            exact one_TL (H0 := H) h4 k5 h5
          · refine ⟨Nat.zero_le _, NewS.mk fun l5 H5 n5 s5 k5 h5 => ?_⟩
            refine hF l5 H5 k5 n5 ?_
            unfold groupOf
            rw [if_neg c3]
            exact ⟨[], h5, .nil⟩
        refine grp _ fun f H4 k4 nf tf => ?_
        clear grp
        obtain ⟨vf, hf, pf⟩ := tf
        have S4 := SDx.keep S k4
        have l6 := ok.s.l6
        refine ⟨_, rfl, s, _, rfl, .inl ⟨kvs, Sum.inr (Str.ofString "groups"), .inl S4.hs, rfl, S4.vs.symm⟩, sg, kg, c.gs.map (·.1), rfl, .inl S4.hg, S.dg.keys, by rw [List.length_map]; omega, fun ys ly py sy n5 => ?_⟩
        have ey : ys = srt (c.gs.map (·.1)) := srt_eq py sy
        have ly6 : ys.length ≤ 6 := by rw [py.length_eq, List.length_map]; exact l6
        have k5 : Keep [] H4 (upd H4 ly (.lst (ys.map V.str))) := keep_new n5
        have h5 : upd H4 ly (.lst (ys.map V.str)) ly = some (.lst (ys.map V.str)) := upd_same
        have nly : ly ≠ f := fun e => by rw [e, hf] at n5; cases n5
        have hf5 := k5 _ _ hf (by simp)
        have pf5 := Paired.mapP pf fun _ _ r => TV.keep r k5
        generalize upd H4 ly (.lst (ys.map V.str)) = H5 at k5 h5 hf5 pf5 ⊢
        have K5 := k4.trans k5
        refine ⟨ly, rfl, ⟨_, .inl (.inl h5)⟩, ?_⟩
        have lvf : vf.length ≤ 1 := by
          rw [Paired.length pf]
          unfold groupOf
          split <;> simp
        refine for_li (K := K) (a := ly) (xs := ys.map V.str) (fun pre σ H' => (∃ y7, σ = [some (.ref a), some (.str u), some (.str ho), some (.str bd), some (.ref s), some (.int (maskI c)), some (.ref f), y7]) ∧ Keep [f] H5 H' ∧ ∃ vs, H' f = some (.lst vs) ∧ Paired (TV H') vs (groupOf (mget (mEs es) u) c (maskI c) bd ++ ((ys.take pre.length).filter fun n => decide (n ∈ mget (mEs es) u)).map fun n => (Str.ofString "named", n, Builtin.bitAnd (dd c.gs n) (maskI c)))) ⟨⟨none, rfl⟩, Keep.refl, vf, hf5, ?_⟩ (fun pre post σ H' _ h => .inl (.inl (h.2.1 _ _ h5 (by simpa using nly)))) ?_ ?_
        · simpa using pf5
        · rintro pre v post σ H6 ex ⟨⟨y7, rfl⟩, k6, vs, hf6, pv6⟩
          have hx : (ys.map V.str)[pre.length]? = some v := by rw [ex]; simp
          rw [List.getElem?_map] at hx
          obtain ⟨n, hn, rfl⟩ := Option.map_eq_some_iff.mp hx
          have fr : ∀ x o, H x = some o → H6 x = some o := fun x o hx => k6 _ _ (K5 _ _ hx (by simp)) (by simpa using fun e => by rw [e, nf] at hx; cases hx)
          have hmd : Rd H6 a (.dK (dEs es)) := by
            rcases mr.hd with h | ⟨o, h⟩
            · exact .inl (fr _ _ h)
            · exact .inr ⟨o, fr _ _ h⟩
          refine ⟨_, rfl, _, rfl, _, rfl, a, _, rfl, .inl ⟨_, Sum.inr u, hmd, rfl, hv.symm⟩, hl, _, rfl, .inl (.inl (.inl (fr _ _ hhl))), rfl, FR.flat_strs _, _, rfl, ?_⟩
          show if inV (.str n) ((mget (mEs es) u).map V.str) = true then _ else _
          rw [in_strs]
          have hlen : vs.length < sizeLine := by
            refine size_ok ?_
            rw [Paired.length pv6, List.length_append, List.length_map, ← Paired.length pf]
            have h1 := List.length_filter_le (fun n => decide (n ∈ mget (mEs es) u)) (ys.take pre.length)
            have h2 := List.length_take_le' pre.length ys
            omega
          refine ifD (fun c3 => ?_) (fun c3 => ?_)
          · obtain ⟨_, _, e3⟩ | ⟨v, d, e1', e2', hvd, _⟩ := S.dg.val n
            · exact absurd (py.mem_iff.mp (List.mem_of_getElem? hn)) e3
            obtain rfl : v = .int d := hvd
            have ed : dd c.gs n = d := by unfold dd; rw [e2']; rfl
            refine ⟨_, rfl, .inl ⟨rfl, _, .inl (.inl hf6)⟩, ?_⟩
            refine ⟨_, rfl, _, rfl, s, _, rfl, .inl ⟨kvs, Sum.inr (Str.ofString "groups"), .inl (fr _ _ S.hs), rfl, S.vs.symm⟩, _, rfl, sg, _, rfl, .inl ⟨kg, Sum.inr n, .inl (fr _ _ S.hg), rfl, e1'.symm⟩, ?_⟩
            refine ⟨_, rfl, _, _, rfl, rfl, ?_⟩
            refine ⟨(show 3 ≤ sizeLine by decide), NewO.mk fun t8 H8 n8 k8 h8 => ?_⟩
            have hf8 := k8 _ _ hf6 (by simp)
            refine ⟨f, vs, _, rfl, rfl, hf8, hlen, MutO.mk fun H9 k9 h9 => ?_⟩
            refine ⟨⟨_, rfl⟩, fun x o hx nx => k9 _ _ (k8 _ _ (k6 _ _ hx nx) (by simp)) nx, vs ++ [.ref t8], h9, ?_⟩
            rw [List.length_append, List.length_singleton, filt_snoc hn, if_pos (decide_eq_true c3), List.map_append, ← List.append_assoc]
            have tvk : ∀ v e, TV H8 v e → TV H9 v e := fun v e ⟨q, e1, hq⟩ => ⟨q, e1, k9 _ _ hq (by simpa using ne_of hq hf8 (fun z => by cases z))⟩
            refine paired_snoc (y := (Str.ofString "named", n, Builtin.bitAnd (dd c.gs n) (maskI c))) (Paired.mapP pv6 fun _ _ r => tvk _ _ (TV.keep r k8)) ?_
            rw [ed]
            exact tvk _ _ ⟨t8, rfl, h8⟩
          · refine ⟨⟨_, rfl⟩, k6, vs, hf6, ?_⟩
            rw [List.length_append, List.length_singleton, filt_snoc hn, if_neg (by rw [decide_eq_false c3]; exact Bool.false_ne_true), List.append_nil]
            exact pv6
        · rintro σ H6 ⟨⟨y7, rfl⟩, k6, vs, hf6, pv6⟩
          rw [List.length_map, List.take_length, ey] at pv6
          have K6 : Keep [] H H6 := fun x o hx _ => k6 _ _ (K5 _ _ hx (by simp)) (by simpa using fun e => by rw [e, nf] at hx; cases hx)
          change Paired (TV H6) vs (groupOf (mget (mEs es) u) c (maskI c) bd ++ namedOf (mget (mEs es) u) c (maskI c)) at pv6
          have asc : AscT (groupOf (mget (mEs es) u) c (maskI c) bd ++ namedOf (mget (mEs es) u) c (maskI c)) := fun e he => by
            rcases List.mem_append.mp he with he | he
            · unfold groupOf at he
              split at he
              · rw [List.mem_singleton.mp he]
                exact ⟨(show Asc (Str.ofString "group") from Asc.of (by decide +kernel)), (show Asc (Str.ofString "") from Asc.of (by decide +kernel))⟩
              · simp at he
            · unfold namedOf at he
              obtain ⟨n, hn, rfl⟩ := List.mem_map.mp he
              have hn2 := (List.mem_filter.mp hn).1
              rw [← ey] at hn2
              obtain ⟨x, hx, rfl⟩ := List.mem_map.mp (py.mem_iff.mp hn2)
              exact ⟨(show Asc (Str.ofString "named") from Asc.of (by decide +kernel)), (ok.s.us x hx).1.asc⟩
          refine ⟨_, rfl, ?_⟩
          refine ⟨Nat.zero_le _, NewS.mk fun l7 H7 n7 s7 k7 h7 => ?_⟩
          have K7 := K6.trans k7
          have pv7 := Paired.mapP pv6 fun _ _ r => TV.keep r k7
          have hf7 := k7 _ _ hf6 (by simp)
          refine ⟨.list ((groupOf (mget (mEs es) u) c (maskI c) bd ++ namedOf (mget (mEs es) u) c (maskI c)).map tupD), .list [], .lst (.inl (.inl hf7)) (dp_tr pv7), .lst (.inl (.inl h7)) .nil, shaped_tr asc, rfl, ?_⟩
          rw [eqv_trnil]
          refine ⟨_, rfl, ?_⟩
          refine ifN (fun e => ?_) (fun e => ?_)
          · rw [if_neg e] at q
            exact ⟨_, rfl, q f H7 nf K7 ⟨vs, hf7, pv7⟩⟩
          · rw [if_pos e] at q
            refine ⟨_, rfl, s, _, rfl, .inl ⟨kvs, Sum.inr (Str.ofString "other"), .inl (K7 _ _ S.hs (by simp)), rfl, S.vt.symm⟩, ?_⟩
            refine ⟨(show 3 ≤ sizeLine by decide), NewO.mk fun t8 H8 n8 k8 h8 => ?_⟩
            refine ⟨(show 1 ≤ sizeLine by decide), NewS.mk fun l9 H9 n9 s9 k9 h9 => ?_⟩
            exact q l9 H9 ((K7.trans k8).free n9) ((K7.trans k8).trans k9) (one_TL (H0 := H) h8 k9 h9)
      · rw [e1]
        refine ifT rfl ?_
        rw [case_user c1 e2] at q
        obtain rfl : v = .int d := hv
        refine ⟨_, rfl, _, rfl, s, _, rfl, .inl ⟨kvs, Sum.inr (Str.ofString "users"), .inl S.hs, rfl, S.vu.symm⟩, _, rfl, su, _, rfl, .inl ⟨ku, Sum.inr u, .inl S.hu, rfl, e1.symm⟩, ?_⟩
        refine ⟨_, rfl, _, _, rfl, rfl, ?_⟩
        refine ⟨(show 3 ≤ sizeLine by decide), NewO.mk fun t4 H4 n4 k4 h4 => ?_⟩
        refine ⟨(show 1 ≤ sizeLine by decide), NewS.mk fun l5 H5 n5 s5 k5 h5 => ?_⟩
        exact q l5 H5 (k4.free n5) (k4.trans k5) (one_TL (H0 := H) h4 k5 h5)
end
end K26
namespace K26
open PySem PySem.Spec PyProof.Rows L2 FR TL
open C8 (pss_cut pe_gc)
open StX (pe_callS2 pa_star)
section
variable {P : Program} {w : World} {K : PySem.W.Frag} {mg : Str → Option Value} {base : Heap} {A : Ads}
set_option pp.maxSteps 120
/-- what the law asks of one case -/
def CaseIn (H : Hp) (a s : Addr) (es : Es) (c : AcR) (u : Str) : Prop := MR H a es ∧ Mk (mEs es) ∧ SD H s c ∧ AccOk c ∧ u ∈ (mEs es).map (·.1) ∧ (sd c.gs).Perm c.gs
theorem AscT.filter {ts : Tr} {p : Str × Str × Int → Bool} (h : AscT ts) : AscT (ts.filter p) := fun e he => h e (List.mem_filter.mp he).1
theorem asc_case {held : List Str} {c : AcR} {u ho bd : Str} (ok : AccOk c) (pg : (sd c.gs).Perm c.gs) (hu : Asc u) : AscT (caseOf held c u ho bd) := by
  intro e he
  unfold caseOf caseM at he
  split at he
  · rw [List.mem_singleton.mp he]
    exact ⟨(show Asc (Str.ofString "owner") from Asc.of (by decide +kernel)), (show Asc (Str.ofString "") from Asc.of (by decide +kernel))⟩
  · split at he
    · rw [List.mem_singleton.mp he]
      exact ⟨(show Asc (Str.ofString "user") from Asc.of (by decide +kernel)), hu⟩
    · split at he
      · rw [List.mem_singleton.mp he]
        exact ⟨(show Asc (Str.ofString "other") from Asc.of (by decide +kernel)), (show Asc (Str.ofString "") from Asc.of (by decide +kernel))⟩
      · rcases List.mem_append.mp he with he | he
        · unfold groupOf at he
          split at he
          · rw [List.mem_singleton.mp he]
            exact ⟨(show Asc (Str.ofString "group") from Asc.of (by decide +kernel)), (show Asc (Str.ofString "") from Asc.of (by decide +kernel))⟩
          · simp at he
        · unfold namedOf at he
          obtain ⟨n, hn, rfl⟩ := List.mem_map.mp he
          have hn2 := (List.mem_filter.mp hn).1
          have e2 : srt (c.gs.map (·.1)) = (sd c.gs).map (·.1) := by unfold sd; rw [List.map_map]; exact (List.map_id _).symm
          rw [e2] at hn2
          obtain ⟨x, hx, rfl⟩ := List.mem_map.mp hn2
          exact ⟨(show Asc (Str.ofString "named") from Asc.of (by decide +kernel)), (ok.s.us x (pg.mem_iff.mp hx)).1.asc⟩
theorem filt_snocT {ts : Tr} {i : Nat} {e : Str × Str × Int} {p : Str × Str × Int → Bool} (h : ts[i]? = some e) : (ts.take (i + 1)).filter p = (ts.take i).filter p ++ if p e = true then [e] else [] := by
  rw [List.take_add_one, h, List.filter_append]
  show _ ++ List.filter p [e] = _
  rw [List.filter_cons, List.filter_nil]
theorem grants_ne (ts : Tr) (d : Int) : (!decide (ts.filter (fun e => decide (Builtin.bitAnd d e.2.2 = d)) = [])) = grants ts d := by
  unfold grants
  induction ts with
  | nil => rfl
  | cons e r ih =>
    have hc : Builtin.bitAnd e.2.2 d = Builtin.bitAnd d e.2.2 := by
      unfold Builtin.bitAnd
      cases decide (0 ≤ e.2.2) <;> cases decide (0 ≤ d) <;> simp [Nat.and_comm, Nat.or_comm]
    rw [List.any_cons, List.filter_cons, hc]
    by_cases h : Builtin.bitAnd d e.2.2 = d
    · simp [h]
    · rw [if_neg (by simpa using h)]
      simpa [h] using ih
def spGranted (A : Ads) : Sp := fun vs H Q _ => ∃ a es s c u ho bd d, vs = [.ref a, .str u, .str ho, .str bd, .ref s, .int d] ∧ CaseIn H a s es c u ∧ ∀ H', Keep [] H H' → Q (.bl (grants (caseOf (mget (mEs es) u) c u ho bd) d)) H'
theorem ok_granted (T : Txt w K mg A) : FnOk P w K mg base CX0 2 A.f_granted A.d_granted ["_law_members_here", "_law_user", "_law_owner", "_law_group", "_law_some", "_law_digit"] (spGranted A) := by
  refine T.F_granted.ok sc_granted (fun vs H Q E h => ?_) (fun cdv A_ outer s_ H vs Q E hr h => ?_)
  · obtain ⟨a, es, s, c, u, ho, bd, d, rfl, _⟩ := h
    rfl
  · obtain ⟨a, es, s, c, u, ho, bd, d, rfl, ⟨mr, mk, gd, ok, hu, pg⟩, q⟩ := h
    refine ⟨_, (pss_one (ps_ret (pe_cmpR (op_neD hr.units) (pe_lc (own := [("_law_one", 6)]) (g := gName 6) rfl sc_granted.nd (pi_list (pe_call (ok_case T) (hr.mono (by decide)) (by rfl) T.g_case T.F_case.kp T.B_case .nil pass0 (pa_cons (pv 0) (pa_cons (pv 1) (pa_cons (pv 2) (pa_cons (pv 3) (pa_cons (pv 4) pa_nil))))))) (blkOk_by (own := [("_law_one", 6)]) (N := N_granted) (sc := defScope s_granted) (by decide +kernel)) (fun _ _ _ _ _ => pg_name (i := 6) sc_granted.nd rfl (Or.inl rfl)) (fun _ _ _ _ _ => (pts_one (pt_cmpR op_eq (pe_op op_and (pv 5) (pe_ix (ix_tupK (K := K) rfl) (pv 6) pe_int (fun _ _ => rfl))) (pv 5) (nomark _)))) (fun _ _ _ _ _ => (pv 6))) (pe_lstS pa_nil) (nomark _)))), ?_⟩
    have l7 := case_len (held := mget (mEs es) u) (u := u) (ho := ho) (bd := bd) pg ok.s.l6
    have asc := asc_case (held := mget (mEs es) u) (u := u) (ho := ho) (bd := bd) ok pg (by obtain ⟨x, hx, rfl⟩ := List.mem_map.mp hu; exact (mk.us x hx).1.asc)
    refine ⟨_, rfl, _, rfl, _, rfl, _, rfl, _, rfl, a, es, s, c, u, ho, bd, rfl, mr, mk, gd, ok, hu, pg, fun l H1 nl k1 tl1 => ?_⟩
    obtain ⟨vs, h1, pv⟩ := tl1
    have lv := Paired.length pv
    generalize caseOf (mget (mEs es) u) c u ho bd = ts at q l7 pv lv asc
    refine ⟨l, rfl, ⟨_, .inl (.inl h1)⟩, fun D hD => ?_⟩
    refine lc_it (walk_list (xs := vs)) (fun i H' => Keep [] H1 H' ∧ ∃ ws, H' D = some (.lst ws) ∧ Paired (TV H') ws ((ts.take i).filter fun e => decide (Builtin.bitAnd d e.2.2 = d))) ⟨keep_new hD, [], upd_same, .nil⟩ (fun i H' _ h => .inl (.inl (h.1 _ _ h1 (by simp)))) (fun i x H2 H3 hi h2 y => ?_) (fun H2 h2 => ?_)
    · obtain ⟨rfl, hx⟩ := y
      obtain ⟨k2, ws, hD2, pw⟩ := h2
      obtain ⟨e, he, t, rfl, ht⟩ := tl_get pv hx
      refine ⟨rfl, ?_⟩
      refine ⟨_, rfl, _, rfl, t, _, _, _, rfl, rfl, .inl (.inl (k2 _ _ ht (by simp))), rfl, _, _, rfl, rfl, ?_⟩
      refine ⟨_, rfl, rfl, _, rfl, ?_⟩
      show if decide (V.int (Builtin.bitAnd d e.2.2) = V.int d) = true then _ else _
      rw [show decide (V.int (Builtin.bitAnd d e.2.2) = V.int d) = decide (Builtin.bitAnd d e.2.2 = d) by simp]
      refine ifB (fun c => ?_) (fun c => ?_)
      · refine ⟨_, rfl, ws, hD2, size_ok ?_, ?_⟩
        · rw [Paired.length pw]
          have h1 := List.length_filter_le (fun e => decide (Builtin.bitAnd d e.2.2 = d)) (ts.take i)
          have h2 := List.length_take_le i ts
          omega
        · refine ⟨keep_free k2 hD, ws ++ [.ref t], upd_same, ?_⟩
          rw [filt_snocT he, if_pos c]
          exact paired_snoc (Paired.mapP pw fun _ _ r => TV.put r hD2 (fun _ z => by cases z)) (TV.put ⟨t, rfl, k2 _ _ ht (by simp)⟩ hD2 (fun _ z => by cases z))
      · refine ⟨k2, ws, hD2, ?_⟩
        rw [filt_snocT he, if_neg (by rw [c]; exact Bool.false_ne_true), List.append_nil]
        exact pw
    · obtain ⟨k2, ws, hD2, pw⟩ := h2
      rw [lv, List.take_length] at pw
      refine ⟨Nat.zero_le _, NewS.mk fun l7 H7 n7 s7 k7 h7 => ?_⟩
      have pw7 := Paired.mapP pw fun _ _ r => TV.keep r k7
      refine ⟨.list ((ts.filter fun e => decide (Builtin.bitAnd d e.2.2 = d)).map tupD), .list [], .lst (.inl (.inl (k7 _ _ hD2 (by simp)))) (dp_tr pw7), .lst (.inl (.inl h7)) .nil, shaped_tr asc.filter, rfl, ?_⟩
      rw [eqv_trnil, grants_ne]
      exact q H7 ((k1.trans k2).trans k7)
end
end K26
namespace K26
open PySem PySem.Spec PyProof.Rows L2 FR TL
open C8 (pss_cut pe_gc)
open StX (pe_callS2 pa_star)
def tKV (m : Dm) : List (L2.Key × V) := m.map fun e => (Sum.inr e.1, V.str (lw e.2))
theorem tKV_DT : ∀ {m : Dm}, (∀ e ∈ m, 0 ≤ e.2 ∧ e.2 ≤ 7) → DT (tKV m) m
  | [], _ => .nil
  | e :: r, h => .cons ⟨rfl, lw e.2, rfl, lw_good (h e List.mem_cons_self).1 (h e List.mem_cons_self).2⟩ (tKV_DT fun x hx => h x (List.mem_cons_of_mem _ hx))
theorem merge_tKV : ∀ (m acc : Dm), ((acc ++ m).map (·.1)).Nodup → mergeK (tKV acc) (tKV m) = tKV (acc ++ m)
  | [], acc, _ => by rw [List.append_nil]; rfl
  | e :: r, acc, nd => by
    have hn : e.1 ∉ acc.map (·.1) := fun hc => by
      rw [List.map_append, List.map_cons] at nd
      exact (List.nodup_append.mp nd).2.2 _ hc _ List.mem_cons_self rfl
    have dv : DV (fun x d => x = V.str (lw d)) (tKV acc) acc := by
      clear nd hn
      induction acc with
      | nil => exact .nil
      | cons a b ih => exact .cons ⟨rfl, rfl⟩ ih
    have p := (dv.snoc (v := .str (lw e.2)) (d := e.2) rfl hn).1
    show mergeK (putK (tKV acc) (Sum.inr e.1) (.str (lw e.2))) (tKV r) = _
    rw [p]
    have := merge_tKV r (acc ++ [e]) (by simpa using nd)
    rw [List.append_assoc] at this
    rw [← show tKV (acc ++ [e]) = tKV acc ++ [(Sum.inr e.1, V.str (lw e.2))] by unfold tKV; rw [List.map_append]; rfl]
    exact this
theorem DV.at {R : V → Int → Prop} {kvs : List (L2.Key × V)} {m : Dm} (h : DV R kvs m) {i : Nat} {u : Str} {d : Int} (e : m[i]? = some (u, d)) : ∃ v, kvs[i]? = some (Sum.inr u, v) ∧ R v d := by
  induction h generalizing i with
  | nil => simp at e
  | @cons x y a b r t ih =>
    cases i with
    | zero =>
      obtain rfl : y = (u, d) := by simpa using e
      refine ⟨x.2, ?_, r.2⟩
      show some x = _
      rw [← r.1]
    | succ i => exact ih (by simpa using e)
theorem vrev : ∀ {xs : List V} {us : List Value}, Vals xs us → Vals xs.reverse us.reverse
  | _, _, .nil => .nil
  | x :: xs, u :: us, .cons r t => by rw [List.reverse_cons, List.reverse_cons]; exact (vrev t).append (.cons r .nil)
structure TI (HL : Hp) (D : Addr) (m : Dm) (i : Nat) (H' : Hp) : Prop where
  kp : Keep [] HL H'
  ex : ∃ ps : List Addr, H' D = some (.lst (ps.map V.ref)) ∧ Paired (fun p (kv : L2.Key × V) => H' p = some (.tup [kV kv.1, kv.2])) ps (tKV (m.take i))
theorem TI.zero {HL : Hp} {D : Addr} {m : Dm} (h : HL D = none) : TI HL D m 0 (upd HL D (.lst [])) := ⟨keep_new h, [], upd_same, .nil⟩
theorem pair_snoc {α β : Type} {R : α → β → Prop} {a : List α} {b : List β} {x : α} {y : β} (h : Paired R a b) (r : R x y) : Paired R (a ++ [x]) (b ++ [y]) := by
  induction h with
  | nil => exact .cons r .nil
  | cons q _ ih => exact .cons q ih
theorem TI.step {HL H1 H3 : Hp} {D t : Addr} {m : Dm} {i : Nat} {u : Str} {d : Int} (hD : HL D = none) (h : TI HL D m i H1) (l6 : m.length ≤ 6) (hi : m[i]? = some (u, d)) (k : Keep [] H1 H3) (ht : H3 t = some (.tup [.str u, .str (lw d)])) :
    ∃ acc, H3 D = some (.lst acc) ∧ acc.length < sizeLine ∧ TI HL D m (i + 1) (upd H3 D (.lst (acc ++ [.ref t]))) := by
  obtain ⟨ps, h1, pr⟩ := h.ex
  have hD3 := k _ _ h1 (by simp)
  refine ⟨_, hD3, size_ok ?_, ?_, ps ++ [t], by rw [upd_same, List.map_append]; rfl, ?_⟩
  · have := Paired.length pr
    unfold tKV at this
    rw [List.length_map, List.length_take] at this
    rw [List.length_map]
    omega
  · exact keep_free (h.kp.trans k) hD
  · have e : tKV (m.take (i + 1)) = tKV (m.take i) ++ [(Sum.inr u, .str (lw d))] := by
      unfold tKV
      rw [List.take_add_one, hi, List.map_append]
      rfl
    rw [e]
    have nt : ∀ {p : Addr} {ys : List V}, H3 p = some (.tup ys) → upd H3 D (.lst (ps.map V.ref ++ [.ref t])) p = some (.tup ys) := fun hp => by
      rw [upd_ne (ne_of hp hD3 (fun z => by cases z))]
      exact hp
    exact pair_snoc (Paired.mapP pr fun _ _ r => nt (k _ _ r (by simp))) (nt ht)
theorem TI.done {K : PySem.W.Frag} {H H4 : Hp} {su D : Addr} {u : HO} {od : Obj} {m : Dm} (hu : H su = some u) (hn : ∀ ys, u ≠ .tup ys) (hD : (upd H su (.frz od u)) D = none) (nd : (m.map (·.1)).Nodup) (h : TI (upd H su (.frz od u)) D m m.length H4) :
    ∃ ps : List Addr, SqL K (upd H4 su u) D (ps.map V.ref) ∧ Paired (fun p (kv : L2.Key × V) => SqT K (upd H4 su u) p [kV kv.1, kv.2]) ps (tKV m) ∧ mergeK [] (tKV m) = tKV m ∧ Keep [] H (upd H4 su u) := by
  obtain ⟨ps, h1, pr⟩ := h.ex
  rw [List.take_length] at pr
  have hf : H4 su = some (.frz od u) := h.kp _ _ upd_same (by simp)
  refine ⟨ps, .inl (.inl ?_), Paired.mapP pr fun _ _ r => .inl (.inl ?_), merge_tKV m [] nd, fun x o ho _ => ?_⟩
  · rw [upd_ne (ne_of h1 hf (fun z => by cases z))]
    exact h1
  · rw [upd_ne (ne_of r hf (fun z => by cases z))]
    exact r
  · by_cases e : x = su
    · subst e
      rw [upd_same]
      rw [hu] at ho
      exact ho
    · rw [upd_ne e]
      exact h.kp _ _ (by rw [upd_ne e]; exact ho) (by simp)
theorem SDx.neu {H : Hp} {s : Addr} {c : AcR} {kvs : List (L2.Key × V)} {u g : Addr} {ku kg : List (L2.Key × V)} (h : SDx H s c kvs u g ku kg) : s ≠ u := fun e => by
  have h1 := h.hs
  rw [e, h.hu] at h1
  obtain rfl : ku = kvs := HO.dK.inj (Option.some.inj h1)
  rcases h.du.val (Str.ofString "users") with ⟨e1, _⟩ | ⟨v, d, e1, _, hv, _⟩
  · rw [h.vu] at e1
    cases e1
  · rw [h.vu] at e1
    obtain rfl : v = .int d := hv
    cases e1
theorem SDx.neg {H : Hp} {s : Addr} {c : AcR} {kvs : List (L2.Key × V)} {u g : Addr} {ku kg : List (L2.Key × V)} (h : SDx H s c kvs u g ku kg) : s ≠ g := fun e => by
  have h1 := h.hs
  rw [e, h.hg] at h1
  obtain rfl : kg = kvs := HO.dK.inj (Option.some.inj h1)
  rcases h.dg.val (Str.ofString "users") with ⟨e1, _⟩ | ⟨v, d, e1, _, hv, _⟩
  · rw [h.vu] at e1
    cases e1
  · rw [h.vu] at e1
    obtain rfl : v = .int d := hv
    cases e1
section
variable {P : Program} {w : World} {K : PySem.W.Frag} {mg : Str → Option Value} {base : Heap} {A : Ads}
set_option pp.maxSteps 120
theorem kb_AccessList (T : Txt w K mg A) : KBn K A.d_AccessList___init__ ["self", "owner", "group", "other", "users", "groups", "mask"] 4 ["users", "groups", "mask"] (fun us ws => us ++ ws) (fun vs zs => vs ++ zs) := by
  obtain ⟨mv, h⟩ := FR.kb0 (ps := ["self", "owner", "group", "other", "users", "groups", "mask"]) T.F_AccessList___init__ 4 ["users", "groups", "mask"] [] (fun us mv ws => us ++ ws) (by simp) (by simp) (fun a b c => a.append c) fun D doc pm an cdv ct us mv ws h1 h2 h3 => match us, mv, ws, h1, h2, h3 with
    | [_, _, _, _], [], [_, _, _], _, _, _ => (show bindArgs _ _ = pure _ from rfl)
  exact h
theorem kb_Judge (T : Txt w K mg A) : KBn K A.d_Judge___call__ ["self", "user", "owner", "group", "access", "letters"] 1 ["letters", "access", "group", "owner", "user"] (fun us ws => us ++ ws.reverse) (fun vs zs => vs ++ zs.reverse) :=
  FR.kbF T.F_Judge___call__ 1 ["letters", "access", "group", "owner", "user"] (fun us ws => us ++ ws.reverse) (fun a c => a.append (vrev c)) fun kV doc pm an cdv ct us ws h1 h2 => match us, ws, h1, h2 with
    | [_], [_, _, _, _, _], _, _ => rfl
def spMade (A : Ads) : Sp := fun vs H Q _ => ∃ s c, vs = [.ref s] ∧ SD H s c ∧ AccOk c ∧ ∀ l H', H l = none → Keep [] H H' → AL A H' l c → (sd c.us).Perm c.us → (sd c.gs).Perm c.gs → Q (.ref l) H'
theorem ok_made (T : Txt w K mg A) : FnOk P w K mg base CX0 11 A.f_made A.d_made ["_law_some"] (spMade A) := by
  refine T.F_made.ok sc_made (fun vs H Q E h => ?_) (fun cdv A_ outer s_ H vs Q E hr h => ?_)
  · obtain ⟨s, c, rfl, _⟩ := h
    rfl
  · obtain ⟨s, c, rfl, ⟨kvs, su, sg, ku, kg, S⟩, ok, q⟩ := h
    refine ⟨_, (pss_cons (ps_set (i := 1) sc_made.nd rfl (.inl rfl) (pe_callTy (call_dictP rfl) (by rfl) T.b_dict (by decide +kernel) (pa_cons (pe_lock (pe_lc (own := [("_law_name", 5), ("_law_digit", 6)]) (g := gTup K 2 (gCons (gName 5) (gCons (gName 6) gNil))) rfl sc_made.nd (pi_items (pe_dget (hu_of hr) (pv 0) pe_str (fun _ _ => rfl))) (blkOk_by (own := [("_law_name", 5), ("_law_digit", 6)]) (N := N_made) (sc := defScope s_made) (by decide +kernel)) (fun _ _ _ _ _ => (pg_tup rfl (pgs_cons (pg_name (i := 5) sc_made.nd rfl (.inl rfl)) (pgs_cons (pg_name (i := 6) sc_made.nd rfl (.inl rfl)) pgs_nil)))) (fun _ _ _ _ _ => pts_nil) (fun _ _ _ _ _ => (pe_tupN (pa_cons (pv 5) (pa_cons (pe_call (ok_text T) (hr.mono (by decide)) (by rfl) T.g_text T.F_text.kp T.B_text .nil pass0 (pa_cons (pv 6) pa_nil)) pa_nil)))))) pa_nil)))
  (pss_cons (ps_set (i := 2) sc_made.nd rfl (.inl rfl) (pe_callTy (call_dictP rfl) (by rfl) T.b_dict (by decide +kernel) (pa_cons (pe_lock (pe_lc (own := [("_law_name", 5), ("_law_digit", 6)]) (g := gTup K 2 (gCons (gName 5) (gCons (gName 6) gNil))) rfl sc_made.nd (pi_items (pe_dget (hu_of hr) (pv 0) pe_str (fun _ _ => rfl))) (blkOk_by (own := [("_law_name", 5), ("_law_digit", 6)]) (N := N_made) (sc := defScope s_made) (by decide +kernel)) (fun _ _ _ _ _ => (pg_tup rfl (pgs_cons (pg_name (i := 5) sc_made.nd rfl (.inl rfl)) (pgs_cons (pg_name (i := 6) sc_made.nd rfl (.inl rfl)) pgs_nil)))) (fun _ _ _ _ _ => pts_nil) (fun _ _ _ _ _ => (pe_tupN (pa_cons (pv 5) (pa_cons (pe_call (ok_text T) (hr.mono (by decide)) (by rfl) T.g_text T.F_text.kp T.B_text .nil pass0 (pa_cons (pv 6) pa_nil)) pa_nil)))))) pa_nil)))
  (pss_cons (ps_set (i := 3) sc_made.nd rfl (.inl rfl) (pe_ifExp (pt_cmpR op_notN (pe_dget (hu_of hr) (pv 0) pe_str (fun _ _ => rfl)) pe_non (nomark _)) (pe_call (ok_text T) (hr.mono (by decide)) (by rfl) T.g_text T.F_text.kp T.B_text .nil pass0 (pa_cons (pe_dget (hu_of hr) (pv 0) pe_str (fun _ _ => rfl)) pa_nil)) pe_non))
  (pss_cons (ps_setLc (i := 4) (own := [("_law_kind", 7)]) (g := gName 7) rfl sc_made.nd rfl rfl (sw_true rfl rfl rfl (by decide +kernel)) (pi_list (pe_lstS (pa_cons pe_str (pa_cons pe_str (pa_cons pe_str pa_nil))))) (blkOk_by (own := [("_law_kind", 7)]) (N := N_made) (sc := defScope s_made) (by decide +kernel)) (fun _ _ _ _ _ => pg_name (i := 7) sc_made.nd rfl (Or.inl rfl)) (fun _ _ _ _ _ => pts_nil) (fun _ _ _ _ _ => (pe_call (ok_text T) (hr.mono (by decide)) (by rfl) T.g_text T.F_text.kp T.B_text .nil pass0 (pa_cons (pe_dget (hu_of hr) (pv 0) (pv 7) (fun _ _ => rfl)) pa_nil))))
  (pss_one (ps_ret (pe_makeK T.mk_AccessList (ok_AccessList___init__ T) (hr.mono (by decide)) (by rfl) T.gC_AccessList (kb_AccessList T) pass0 (pa_cons (pe_ix ix_list (pv 4) pe_int (fun _ _ => rfl)) (pa_cons (pe_ix ix_list (pv 4) pe_int (fun _ _ => rfl)) (pa_cons (pe_ix ix_list (pv 4) pe_int (fun _ _ => rfl)) pa_nil))) (pk_cons (pv 1) (pk_cons (pv 2) (pk_cons (pv 3) pk_nil)))))))))), ?_⟩
    refine ⟨su, _, S.hu, trivial, fun od => ?_⟩
    refine ⟨_, rfl, s, _, rfl, .inl ⟨kvs, Sum.inr (Str.ofString "users"), .inl (by rw [upd_ne S.neu]; exact S.hs), rfl, S.vu.symm⟩, su, od, _, rfl, upd_same, fun D hD => ?_⟩
    refine lc_it walk_items (fun i H' => TI (upd H su (.frz od (.dK ku))) D c.us i H') (.zero hD) (fun i H' _ h => h.kp _ _ upd_same (by simp)) (fun i v H4 H5 hi h4 y4 => ?_) (fun H4 h4 => ?_)
    · obtain ⟨Tp, x1, x2, rfl, nT, rfl, e1, e2⟩ := y4
      have hl : i < c.us.length := by rw [← S.du.len]; exact hi
      have hi2 : c.us[i]? = some (c.us[i].1, c.us[i].2) := List.getElem?_eq_getElem hl
      obtain ⟨v, hv, hvd⟩ := S.du.at hi2
      obtain rfl : v = .int c.us[i].2 := hvd
      have e1 : ku[i]?.map (fun kv => kV kv.1) = some x1 := e1
      have e2 : ku[i]?.map Prod.snd = some x2 := e2
      rw [hv] at e1 e2
      obtain rfl : V.str c.us[i].1 = x1 := Option.some.inj e1
      obtain rfl : V.int c.us[i].2 = x2 := Option.some.inj e2
      have hb := ok.u.ds _ (List.getElem_mem hl)
      generalize c.us[i] = e at hi2 hb nT ⊢
      have k5 := keep_new (o := .tup [.str e.1, .int e.2]) nT
      refine ⟨Tp, _, rfl, .inl (.inl upd_same), rfl, ?_⟩
      walk_at "rd"
      intro H6 k6
      refine ⟨(show 2 ≤ sizeLine by decide), NewO.mk fun t7 H7 n7 k7 h7 => ?_⟩
      exact h4.step hD ok.u.l6 hi2 ((k5.trans k6).trans k7) h7
    · rw [S.du.len] at h4
      refine ⟨h4.kp _ _ upd_same (by simp), ?_⟩
      obtain ⟨ps1, s1, s2, s3, kk1⟩ := TI.done (K := K) S.hu (fun _ z => by cases z) hD ok.u.nd h4
      refine ⟨D, ps1, tKV c.us, rfl, s1, s2, fun l1 n1 => ?_⟩
      rw [s3]
      have K2 := kk1.trans (keep_new (o := .dK (tKV c.us)) n1)
      have h2 : upd (upd H4 su (.dK ku)) l1 (.dK (tKV c.us)) l1 = some (.dK (tKV c.us)) := upd_same
      generalize upd (upd H4 su (.dK ku)) l1 (.dK (tKV c.us)) = H2 at K2 h2 ⊢
      clear s1 s2 s3 h4 n1 hD kk1
      have S2 := SDx.keep S K2
      refine ⟨sg, _, S2.hg, trivial, fun od => ?_⟩
      refine ⟨_, rfl, s, _, rfl, .inl ⟨kvs, Sum.inr (Str.ofString "groups"), .inl (by rw [upd_ne S2.neg]; exact S2.hs), rfl, S2.vs.symm⟩, sg, od, _, rfl, upd_same, fun D hD => ?_⟩
      refine lc_it walk_items (fun i H' => TI (upd H2 sg (.frz od (.dK kg))) D c.gs i H') (.zero hD) (fun i H' _ h => h.kp _ _ upd_same (by simp)) (fun i v H4 H5 hi h4 y4 => ?_) (fun H4 h4 => ?_)
      · obtain ⟨Tp, x1, x2, rfl, nT, rfl, e1, e2⟩ := y4
        have hl : i < c.gs.length := by rw [← S2.dg.len]; exact hi
        have hi2 : c.gs[i]? = some (c.gs[i].1, c.gs[i].2) := List.getElem?_eq_getElem hl
        obtain ⟨v, hv, hvd⟩ := S2.dg.at hi2
        obtain rfl : v = .int c.gs[i].2 := hvd
        have e1 : kg[i]?.map (fun kv => kV kv.1) = some x1 := e1
        have e2 : kg[i]?.map Prod.snd = some x2 := e2
        rw [hv] at e1 e2
        obtain rfl : V.str c.gs[i].1 = x1 := Option.some.inj e1
        obtain rfl : V.int c.gs[i].2 = x2 := Option.some.inj e2
        have hb := ok.s.ds _ (List.getElem_mem hl)
        generalize c.gs[i] = e at hi2 hb nT ⊢
        have k5 := keep_new (o := .tup [.str e.1, .int e.2]) nT
        refine ⟨Tp, _, rfl, .inl (.inl upd_same), rfl, ?_⟩
        walk_at "rd"
        intro H6 k6
        refine ⟨(show 2 ≤ sizeLine by decide), NewO.mk fun t7 H7 n7 k7 h7 => ?_⟩
        exact h4.step hD ok.s.l6 hi2 ((k5.trans k6).trans k7) h7
      · rw [S2.dg.len] at h4
        refine ⟨h4.kp _ _ upd_same (by simp), ?_⟩
        obtain ⟨ps2, s1, s2, s3, kk2⟩ := TI.done (K := K) S2.hg (fun _ z => by cases z) hD ok.s.nd h4
        refine ⟨D, ps2, tKV c.gs, rfl, s1, s2, fun l3 n3 => ?_⟩
        rw [s3]
        have K3 := kk2.trans (keep_new (o := .dK (tKV c.gs)) n3)
        have h4 : upd (upd H4 sg (.dK kg)) l3 (.dK (tKV c.gs)) l3 = some (.dK (tKV c.gs)) := upd_same
        generalize upd (upd H4 sg (.dK kg)) l3 (.dK (tKV c.gs)) = H3 at K3 h4 ⊢
        clear s1 s2 s3 n3 hD kk2
        have S3 := SDx.keep S2 K3
        have h3 := K3 _ _ h2 (by simp)
        have hm : c.ma = none ∨ ∃ d, c.ma = some d ∧ 0 ≤ d ∧ d ≤ 7 := by
          rcases ok.m with ⟨e, _⟩ | ⟨d, e, b⟩
          · exact .inl e
          · exact .inr ⟨d, e, b⟩
        rcases hm with em | ⟨d, em, d0, d1⟩
        · have e1 : mV c = .non := by unfold mV; rw [em]
          refine ⟨_, rfl, s, _, rfl, .inl ⟨kvs, Sum.inr (Str.ofString "mask"), .inl S3.hs, rfl, S3.vm.symm⟩, rfl, _, rfl, ?_⟩
          rw [e1]
          refine ifF rfl ?_
          have K4 : Keep [] H3 H3 := Keep.refl
          refine ⟨(show 3 ≤ sizeLine by decide), NewS.mk fun lp Hp np sp kp hp => ?_⟩
          refine ⟨lp, rfl, ⟨_, .inl (.inl hp)⟩, fun D hD => ?_⟩
          have S5 := SDx.keep (SDx.keep S3 K4) kp
          refine lc_it (walk_list (xs := [.str (Str.ofString "owner"), .str (Str.ofString "group"), .str (Str.ofString "other")])) (fun i H' => Keep [] Hp H' ∧ H' D = some (.lst (([c.ow, c.gr, c.ot].take i).map fun d => V.str (lw d)))) ⟨keep_new hD, upd_same⟩ (fun i H' _ h => .inl (.inl (h.1 _ _ hp (by simp)))) (fun i x H6 H7 hi h6 y6 => ?_) (fun H6 h6 => ?_)
          · obtain ⟨rfl, hx⟩ := y6
            obtain ⟨k6, h6⟩ := h6
            have S6 := SDx.keep S5 k6
            have hi3 : i < 3 := hi
            have i3 : i = 0 ∨ i = 1 ∨ i = 2 := by omega
            rcases i3 with rfl | rfl | rfl
            · obtain rfl : V.str (Str.ofString "owner") = x := Option.some.inj hx
              refine ⟨rfl, _, rfl, _, rfl, s, _, rfl, .inl ⟨kvs, Sum.inr (Str.ofString "owner"), .inl S6.hs, rfl, S6.vo.symm⟩, c.ow, rfl, ok.o.1, ok.o.2, fun H8 k8 => ?_⟩
              refine ⟨_, k8 _ _ h6 (by simp), by show 0 < sizeLine; decide, keep_free (k6.trans k8) hD, ?_⟩
              rw [upd_same]
              rfl
            · obtain rfl : V.str (Str.ofString "group") = x := Option.some.inj hx
              refine ⟨rfl, _, rfl, _, rfl, s, _, rfl, .inl ⟨kvs, Sum.inr (Str.ofString "group"), .inl S6.hs, rfl, S6.vg.symm⟩, c.gr, rfl, ok.g.1, ok.g.2, fun H8 k8 => ?_⟩
              refine ⟨_, k8 _ _ h6 (by simp), by show 1 < sizeLine; decide, keep_free (k6.trans k8) hD, ?_⟩
              rw [upd_same]
              rfl
            · obtain rfl : V.str (Str.ofString "other") = x := Option.some.inj hx
              refine ⟨rfl, _, rfl, _, rfl, s, _, rfl, .inl ⟨kvs, Sum.inr (Str.ofString "other"), .inl S6.hs, rfl, S6.vt.symm⟩, c.ot, rfl, ok.t.1, ok.t.2, fun H8 k8 => ?_⟩
              refine ⟨_, k8 _ _ h6 (by simp), by show 2 < sizeLine; decide, keep_free (k6.trans k8) hD, ?_⟩
              rw [upd_same]
              rfl
          · obtain ⟨k6, h6⟩ := h6
            have h6 : H6 D = some (.lst [.str (lw c.ow), .str (lw c.gr), .str (lw c.ot)]) := h6
            have hu6 := ((K4.trans kp).trans k6) _ _ h3 (by simp)
            have hg6 := ((K4.trans kp).trans k6) _ _ h4 (by simp)
            refine ⟨_, rfl, D, _, _, _, rfl, rfl, .inl (.inl h6), rfl, ?_⟩
            refine ⟨_, rfl, D, _, _, _, rfl, rfl, .inl (.inl h6), rfl, ?_⟩
            refine ⟨_, rfl, D, _, _, _, rfl, rfl, .inl (.inl h6), rfl, ?_⟩
            refine ⟨_, rfl, _, rfl, _, rfl, ?_⟩
            refine ⟨rfl, rfl, fun x dx nx ndx ne => ?_⟩
            have kn : Keep [] H6 (upd (upd H6 dx (.own x)) x (.ins A.C_AccessList dx [])) := keep_of_new Keep.refl nx ndx Keep.refl
            refine ⟨x, dx, _, _, _, _, _, _, c, _, _, rfl, upd_same, lw_good ok.o.1 ok.o.2, lw_good ok.g.1 ok.g.2, lw_good ok.t.1 ok.t.2, kn _ _ hu6 (by simp), tKV_DT ok.u.ds, kn _ _ hg6 (by simp), tKV_DT ok.s.ds, .inl ⟨rfl, em⟩, ok, fun H9 k9 al p1 p2 => ⟨rfl, ?_⟩⟩
            have KH6 := ((((K2.trans K3).trans K4).trans kp).trans k6)
            exact q x H9 (KH6.free nx) (KH6.trans (keep_of_new Keep.refl nx ndx k9)) al p1 p2
        · have e1 : mV c = .int d := by unfold mV; rw [em]
          refine ⟨_, rfl, s, _, rfl, .inl ⟨kvs, Sum.inr (Str.ofString "mask"), .inl S3.hs, rfl, S3.vm.symm⟩, rfl, _, rfl, ?_⟩
          rw [e1]
          refine ifT rfl ?_
          refine ⟨_, rfl, s, _, rfl, .inl ⟨kvs, Sum.inr (Str.ofString "mask"), .inl S3.hs, rfl, by rw [S3.vm, e1]⟩, d, rfl, d0, d1, fun H4 K4 => ?_⟩
          refine ⟨(show 3 ≤ sizeLine by decide), NewS.mk fun lp Hp np sp kp hp => ?_⟩
          refine ⟨lp, rfl, ⟨_, .inl (.inl hp)⟩, fun D hD => ?_⟩
          have S5 := SDx.keep (SDx.keep S3 K4) kp
          refine lc_it (walk_list (xs := [.str (Str.ofString "owner"), .str (Str.ofString "group"), .str (Str.ofString "other")])) (fun i H' => Keep [] Hp H' ∧ H' D = some (.lst (([c.ow, c.gr, c.ot].take i).map fun d => V.str (lw d)))) ⟨keep_new hD, upd_same⟩ (fun i H' _ h => .inl (.inl (h.1 _ _ hp (by simp)))) (fun i x H6 H7 hi h6 y6 => ?_) (fun H6 h6 => ?_)
          · obtain ⟨rfl, hx⟩ := y6
            obtain ⟨k6, h6⟩ := h6
            have S6 := SDx.keep S5 k6
            have hi3 : i < 3 := hi
            have i3 : i = 0 ∨ i = 1 ∨ i = 2 := by omega
            rcases i3 with rfl | rfl | rfl
            · obtain rfl : V.str (Str.ofString "owner") = x := Option.some.inj hx
              refine ⟨rfl, _, rfl, _, rfl, s, _, rfl, .inl ⟨kvs, Sum.inr (Str.ofString "owner"), .inl S6.hs, rfl, S6.vo.symm⟩, c.ow, rfl, ok.o.1, ok.o.2, fun H8 k8 => ?_⟩
              refine ⟨_, k8 _ _ h6 (by simp), by show 0 < sizeLine; decide, keep_free (k6.trans k8) hD, ?_⟩
              rw [upd_same]
              rfl
            · obtain rfl : V.str (Str.ofString "group") = x := Option.some.inj hx
              refine ⟨rfl, _, rfl, _, rfl, s, _, rfl, .inl ⟨kvs, Sum.inr (Str.ofString "group"), .inl S6.hs, rfl, S6.vg.symm⟩, c.gr, rfl, ok.g.1, ok.g.2, fun H8 k8 => ?_⟩
              refine ⟨_, k8 _ _ h6 (by simp), by show 1 < sizeLine; decide, keep_free (k6.trans k8) hD, ?_⟩
              rw [upd_same]
              rfl
            · obtain rfl : V.str (Str.ofString "other") = x := Option.some.inj hx
              refine ⟨rfl, _, rfl, _, rfl, s, _, rfl, .inl ⟨kvs, Sum.inr (Str.ofString "other"), .inl S6.hs, rfl, S6.vt.symm⟩, c.ot, rfl, ok.t.1, ok.t.2, fun H8 k8 => ?_⟩
              refine ⟨_, k8 _ _ h6 (by simp), by show 2 < sizeLine; decide, keep_free (k6.trans k8) hD, ?_⟩
              rw [upd_same]
              rfl
          · obtain ⟨k6, h6⟩ := h6
            have h6 : H6 D = some (.lst [.str (lw c.ow), .str (lw c.gr), .str (lw c.ot)]) := h6
            have hu6 := ((K4.trans kp).trans k6) _ _ h3 (by simp)
            have hg6 := ((K4.trans kp).trans k6) _ _ h4 (by simp)
            refine ⟨_, rfl, D, _, _, _, rfl, rfl, .inl (.inl h6), rfl, ?_⟩
            refine ⟨_, rfl, D, _, _, _, rfl, rfl, .inl (.inl h6), rfl, ?_⟩
            refine ⟨_, rfl, D, _, _, _, rfl, rfl, .inl (.inl h6), rfl, ?_⟩
            refine ⟨_, rfl, _, rfl, _, rfl, ?_⟩
            refine ⟨rfl, rfl, fun x dx nx ndx ne => ?_⟩
            have kn : Keep [] H6 (upd (upd H6 dx (.own x)) x (.ins A.C_AccessList dx [])) := keep_of_new Keep.refl nx ndx Keep.refl
            refine ⟨x, dx, _, _, _, _, _, _, c, _, _, rfl, upd_same, lw_good ok.o.1 ok.o.2, lw_good ok.g.1 ok.g.2, lw_good ok.t.1 ok.t.2, kn _ _ hu6 (by simp), tKV_DT ok.u.ds, kn _ _ hg6 (by simp), tKV_DT ok.s.ds, .inr ⟨_, d, rfl, lw_good d0 d1, em⟩, ok, fun H9 k9 al p1 p2 => ⟨rfl, ?_⟩⟩
            have KH6 := ((((K2.trans K3).trans K4).trans kp).trans k6)
            exact q x H9 (KH6.free nx) (KH6.trans (keep_of_new Keep.refl nx ndx k9)) al p1 p2
end
end K26
namespace K26
open PySem PySem.Spec PyProof.Rows L2 FR TL
open C8 (pss_cut pe_gc)
open StX (pe_callS2 pa_star)
theorem srt_len (xs : List Str) : (srt xs).length ≤ xs.length := by
  unfold srt
  split
  · rename_i h
    exact Nat.le_of_eq (Classical.choose_spec h).1.length_eq
  · exact Nat.zero_le _
theorem gs_len {m : Mp} (h : Mk m) : (gsOf m).length ≤ 6 := Nat.le_trans (srt_len _) (once_few h)
theorem srt_mem {xs : List Str} {x : Str} (hx : x ∈ srt xs) : x ∈ xs := by
  unfold srt at hx
  split at hx
  · rename_i h
    exact (Classical.choose_spec h).1.mem_iff.mp hx
  · simp at hx
theorem gs_us {m : Mp} (h : Mk m) : ∀ g ∈ gsOf m, Us g := fun g hg => by
  have := srt_mem hg
  rw [once_mem, mem_flatM] at this
  obtain hx | ⟨e, he, hx⟩ := this
  · exact absurd hx List.not_mem_nil
  · exact (h.gs e he).1 g hx
theorem at_root (xs : List Str) {j : Nat} (h : j < xs.length + 1) : ∃ s, (xs.map V.str ++ [.str root])[j]? = some (.str s) ∧ (s = root ∨ s ∈ xs) := by
  by_cases c : j < xs.length
  · refine ⟨xs[j], ?_, .inr (List.getElem_mem c)⟩
    rw [List.getElem?_append_left (by rw [List.length_map]; exact c), List.getElem?_map, List.getElem?_eq_getElem c]
    rfl
  · have e : j = xs.length := by omega
    subst e
    refine ⟨root, ?_, .inl rfl⟩
    rw [List.getElem?_append_right (by rw [List.length_map]; exact Nat.le_refl _), List.length_map, Nat.sub_self]
    rfl
theorem dEs_keys (es : Es) : ((dEs es).map fun kv => kV kv.1) = ((mEs es).map (·.1)).map V.str := by
  unfold dEs mEs
  rw [List.map_map, List.map_map, List.map_map]
  rfl
section
variable {P : Program} {w : World} {K : PySem.W.Frag} {mg : Str → Option Value} {base : Heap} {A : Ads}
set_option pp.maxSteps 120
end
end K26
namespace K26
open PySem PySem.Spec PyProof.Rows L2 FR TL
open C8 (pss_cut pe_gc)
open StX (pe_callS2 pa_star)
/-- a dict from names to digits that was put together -/
structure Dn (kvs : List (L2.Key × V)) (m : Dm) : Prop where
  dv : DV RI kvs m
  nd : (m.map (·.1)).Nodup
  us : ∀ e ∈ m, Us e.1
  ds : ∀ e ∈ m, 0 ≤ e.2 ∧ e.2 ≤ 7
theorem put_in : ∀ {kvs : List (L2.Key × V)} {m : Dm} {u : Str} {d : Int}, DV RI kvs m → (m.map (·.1)).Nodup → u ∈ m.map (·.1) → ∃ m', DV RI (putK kvs (Sum.inr u) (.int d)) m' ∧ m'.map (·.1) = m.map (·.1) ∧ ∀ e ∈ m', e ∈ m ∨ e = (u, d) := by
  intro kvs m u d h nd hu
  have key : ∀ {kvs : List (L2.Key × V)} {m : Dm}, DV RI kvs m → DV RI (kvs.map fun kv => if kv.1 = Sum.inr u then (kv.1, V.int d) else kv) (m.map fun e => if e.1 = u then (e.1, d) else e) := fun {kvs m} h => by
    induction h with
    | nil => exact .nil
    | @cons x e _ _ r _ ih =>
      by_cases c : e.1 = u
      · have c2 : x.1 = Sum.inr u := by rw [r.1, c]
        rw [List.map_cons, List.map_cons, if_pos c2, if_pos c]
        exact .cons ⟨r.1, rfl⟩ ih
      · have c2 : ¬ x.1 = Sum.inr u := by rw [r.1]; exact fun z => c (Sum.inr.inj z)
        rw [List.map_cons, List.map_cons, if_neg c2, if_neg c]
        exact .cons r ih
  have ha : (kvs.any fun kv => decide (kv.1 = Sum.inr u)) = true := by
    have h1 : (Sum.inr u : L2.Key) ∈ kvs.map (·.1) := by rw [h.keys]; exact List.mem_map_of_mem hu
    obtain ⟨kv, h2, h3⟩ := List.mem_map.mp h1
    exact List.any_eq_true.mpr ⟨kv, h2, decide_eq_true h3⟩
  refine ⟨m.map fun e => if e.1 = u then (e.1, d) else e, ?_, ?_, fun e he => ?_⟩
  · unfold putK
    rw [if_pos ha]
    exact key h
  · rw [List.map_map]
    refine List.map_congr_left fun e _ => ?_
    show (if e.1 = u then (e.1, d) else e).1 = e.1
    split <;> rfl
  · obtain ⟨x, hx, rfl⟩ := List.mem_map.mp he
    by_cases c : x.1 = u
    · rw [if_pos c, c]
      exact .inr rfl
    · rw [if_neg c]
      exact .inl hx
theorem Dn.put {kvs : List (L2.Key × V)} {m : Dm} (h : Dn kvs m) {u : Str} {d : Int} (hu : Us u) (d0 : 0 ≤ d) (d1 : d ≤ 7) : ∃ m', Dn (putK kvs (Sum.inr u) (.int d)) m' ∧ m'.length ≤ m.length + 1 := by
  by_cases c : u ∈ m.map (·.1)
  · obtain ⟨m', h1, h2, h3⟩ := put_in (d := d) h.dv h.nd c
    refine ⟨m', ⟨h1, by rw [h2]; exact h.nd, fun e he => ?_, fun e he => ?_⟩, ?_⟩
    · rcases h3 e he with h | rfl
      · exact ‹Dn kvs m›.us e h
      · exact hu
    · rcases h3 e he with h | rfl
      · exact ‹Dn kvs m›.ds e h
      · exact ⟨d0, d1⟩
    · have := congrArg List.length h2
      rw [List.length_map, List.length_map] at this
      omega
  · have s := h.dv.snoc (v := .int d) (d := d) rfl c
    refine ⟨m ++ [(u, d)], ⟨by rw [s.1]; exact s.2, ?_, fun e he => ?_, fun e he => ?_⟩, by simp⟩
    · rw [List.map_append]
      refine List.nodup_append.mpr ⟨h.nd, by simp, fun x hx y hy => ?_⟩
      obtain rfl : y = u := by simpa using hy
      intro z
      exact c (z ▸ hx)
    · rcases List.mem_append.mp he with he | he
      · exact h.us e he
      · rw [List.mem_singleton.mp he]; exact hu
    · rcases List.mem_append.mp he with he | he
      · exact h.ds e he
      · rw [List.mem_singleton.mp he]; exact ⟨d0, d1⟩
def iKV (m : Dm) : List (L2.Key × V) := m.map fun e => (Sum.inr e.1, V.int e.2)
theorem Dn.merge : ∀ (ps : Dm) {kvs : List (L2.Key × V)} {m : Dm}, Dn kvs m → (∀ e ∈ ps, Us e.1 ∧ 0 ≤ e.2 ∧ e.2 ≤ 7) → ∃ m', Dn (mergeK kvs (iKV ps)) m' ∧ m'.length ≤ m.length + ps.length
  | [], kvs, m, h, _ => ⟨m, h, by simp⟩
  | e :: r, kvs, m, h, all => by
    obtain ⟨a1, a2, a3⟩ := all e List.mem_cons_self
    obtain ⟨m1, h1, l1⟩ := h.put a1 a2 a3
    obtain ⟨m2, h2, l2⟩ := Dn.merge r h1 fun x hx => all x (List.mem_cons_of_mem _ hx)
    refine ⟨m2, h2, ?_⟩
    rw [List.length_cons]
    omega
theorem Dn.dg {kvs : List (L2.Key × V)} {m : Dm} (h : Dn kvs m) (l : m.length ≤ 6) : Dg m := ⟨h.nd, h.us, h.ds, l⟩
theorem us_stranger : Us (Str.ofString "stranger") := us_of (by decide +kernel)
theorem us_strange : Us (Str.ofString "strange") := us_of (by decide +kernel)
/-- the pairs that a list names -/
structure PI (H : Hp) (ps : List Addr) (m : Dm) : Prop where
  pr : Paired (fun p (e : Str × Int) => H p = some (.tup [.str e.1, .int e.2])) ps m
  ok : ∀ e ∈ m, Us e.1 ∧ 0 ≤ e.2 ∧ e.2 ≤ 7
theorem PI.keep {H H' : Hp} {ps : List Addr} {m : Dm} {M : List Addr} (h : PI H ps m) (k : Keep M H H') (hM : ∀ a ∈ M, ∃ o, H a = some o ∧ ∀ ys, o ≠ .tup ys) : PI H' ps m :=
  ⟨Paired.mapP h.pr fun p e r => k _ _ r fun hp => by
    obtain ⟨o, h1, h2⟩ := hM p hp
    rw [r] at h1
    exact h2 _ (Option.some.inj h1).symm, h.ok⟩
theorem PI.snoc {H : Hp} {ps : List Addr} {m : Dm} (h : PI H ps m) {t : Addr} {u : Str} {d : Int} (ht : H t = some (.tup [.str u, .int d])) (hu : Us u) (d0 : 0 ≤ d) (d1 : d ≤ 7) : PI H (ps ++ [t]) (m ++ [(u, d)]) :=
  ⟨pair_snoc h.pr ht, fun e he => by
    rcases List.mem_append.mp he with he | he
    · exact h.ok e he
    · rw [List.mem_singleton.mp he]; exact ⟨hu, d0, d1⟩⟩
theorem paired_take {α β : Type} {R : α → β → Prop} {xs : List α} {ys : List β} (h : Paired R xs ys) (n : Nat) : Paired R (xs.take n) (ys.take n) := by
  induction h generalizing n with
  | nil => rw [List.take_nil, List.take_nil]; exact .nil
  | cons r _ ih =>
    cases n with
    | zero => exact .nil
    | succ n => exact .cons r (ih n)
theorem PI.kvs {K : PySem.W.Frag} {H : Hp} {ps : List Addr} {m : Dm} (h : PI H ps m) : Paired (fun p (kv : L2.Key × V) => SqT K H p [kV kv.1, kv.2]) ps (iKV m) := by
  obtain ⟨h, h2⟩ := h
  clear h2
  induction h with
  | nil => exact .nil
  | cons r _ ih => exact .cons (.inl (.inl r)) ih
section
variable {P : Program} {w : World} {K : PySem.W.Frag} {mg : Str → Option Value} {base : Heap} {A : Ads}
set_option pp.maxSteps 120
def spAccess : Sp := fun vs H Q _ => ∃ (b a : Addr) (es : Es) (n : Nat) (x y z : Int), vs = [.ref b, .ref a] ∧ H b = some (bagO x y z) ∧ BagOk n x y z ∧ n < 800000 ∧ ML H a es ∧ Mk (mEs es) ∧
  ∀ (s : Addr) (c : AcR) (x' y' z' : Int) (H' : Hp), SD H' s c → AccOk c → BagOk (n + 50) x' y' z' → Keep [b] H H' → H' b = some (bagO x' y' z') → Q (.ref s) H'
def kinds : List V := [.str (Str.ofString "owner"), .str (Str.ofString "group"), .str (Str.ofString "other")]
def sK3 (d0 d1 d2 : Int) : List (L2.Key × V) := [(Sum.inr (Str.ofString "mask"), .non), (Sum.inr (Str.ofString "owner"), .int d0), (Sum.inr (Str.ofString "group"), .int d1), (Sum.inr (Str.ofString "other"), .int d2)]
theorem dv_vals : ∀ {kvs : List (L2.Key × V)} {m : Dm}, DV RI kvs m → kvs.map (·.2) = (m.map (·.2)).map V.int := fun {kvs m} h => by
  induction h with
  | nil => rfl
  | @cons x e _ _ r _ ih =>
    rw [List.map_cons, List.map_cons, List.map_cons, ih]
    rw [show x.2 = V.int e.2 from r.2]
theorem dp_ints {K : PySem.W.Frag} {H : Hp} : ∀ ns : List Int, DpAll K H (ns.map V.int) (ns.map PyData.int)
  | [] => .nil
  | n :: r => .cons (.int n) (dp_ints r)
theorem lay_ints : ∀ ns : List Int, PyData.canLayAll0 (ns.map PyData.int) = true
  | [] => rfl
  | n :: r => by
    rw [List.map_cons, PyData.canLayAll0, lay_ints r, PyData.canLay0]
    rfl
theorem depth_ints : ∀ ns : List Int, PyData.depthAll (ns.map PyData.int) ≤ 1
  | [] => by decide
  | n :: r => by
    have ih := depth_ints r
    rw [List.map_cons, PyData.depthAll]
    have : PyData.depth (.int n) ≤ 1 := by rw [PyData.depth]; omega
    omega
theorem shaped_ints (ns : List Int) : SeqAt.shaped (.list (ns.map PyData.int)) = true := by
  unfold SeqAt.shaped
  rw [PyData.canLay0, lay_ints ns, PyData.depth]
  have := depth_ints ns
  simp
  omega
theorem eqv_ints (ns : List Int) : PyData.eqv (.list (ns.map PyData.int)) (.list []) = decide (ns = []) := by
  cases ns with
  | nil => rfl
  | cons e r => rfl
theorem ok_access (T : Txt w K mg A) : FnOk P w K mg base CX0 3 A.f_access A.d_access ["_law_bag_here", "_law_members_here"] spAccess := by
  refine T.F_access.ok sc_access (fun vs H Q E h => ?_) (fun cdv A_ outer s_ H vs Q E hr h => ?_)
  · obtain ⟨b, a, es, n, x, y, z, rfl, _⟩ := h
    rfl
  · obtain ⟨b, a, es, n, x, y, z, rfl, hb, ok, hn, ml, gd, q⟩ := h
    refine ⟨_, (pss_cons (ps_par (i := 2) (j := 3) (by rfl) sc_access.nd rfl rfl (by decide) rfl rfl (pa_cons (pe_op op_catN (pe_callTy (call_listD rfl) (by rfl) T.b_list (by decide +kernel) (pa_cons (pv 1) pa_nil)) (pe_lstS (pa_cons pe_str pa_nil))) (pa_cons (pe_op op_catN (pe_call (ok_all_groups T) (hr.mono (by decide)) (by rfl) T.g_all_groups T.F_all_groups.kp T.B_all_groups .nil pass0 (pa_cons (pv 1) pa_nil)) (pe_lstS (pa_cons pe_str pa_nil))) pa_nil)) (by rfl))
  (pss_cons (ps_set (i := 4) sc_access.nd rfl (.inl rfl) (pe_disp (pps_cons pe_str pe_non pps_nil) (by rfl) (by rfl) (fun z => by cases z) (by decide)))
  (pss_cons (ps_for PassesOwn.never rfl (pi_list (pe_lstS (pa_cons pe_str (pa_cons pe_str (pa_cons pe_str pa_nil))))) (pg_name (i := 5) sc_access.nd rfl (.inl rfl)) (pss_one (ps_asg (pe_ix ix_list (pe_lstS (pa_cons (pe_call (ok_take T) (hr.mono (by decide)) (by rfl) T.g_take T.F_take.kp T.B_take .nil pass0 (pa_cons (pv 0) (pa_cons pe_int pa_nil))) (pa_cons pe_int (pa_cons pe_int pa_nil)))) (pe_call (ok_take T) (hr.mono (by decide)) (by rfl) T.g_take T.F_take.kp T.B_take .nil pass0 (pa_cons (pv 0) (pa_cons pe_int pa_nil))) (fun _ _ => rfl)) (pg_sub (pv 4) (pv 5) (set_dict (hu_of hr))))))
  (pss_cons (ps_asg (pe_callTy (call_dictP rfl) (by rfl) T.b_dict (by decide +kernel) (pa_cons (pe_slice sl_listN (pe_lc (own := [("_law_name", 8)]) (g := gName 8) rfl sc_access.nd (pi_list (pv 2)) (blkOk_by (own := [("_law_name", 8)]) (N := N_access) (sc := defScope s_access) (by decide +kernel)) (fun _ _ _ _ _ => pg_name (i := 8) sc_access.nd rfl (Or.inl rfl)) (fun _ _ _ _ _ => (pts_one (pt_cmpR op_eq (pe_call (ok_take T) (hr.mono (by decide)) (by rfl) T.g_take T.F_take.kp T.B_take .nil pass0 (pa_cons (pv 0) (pa_cons pe_int pa_nil))) pe_int (nomark _)))) (fun _ _ _ _ _ => (pe_tupN (pa_cons (pv 8) (pa_cons (pe_call (ok_take T) (hr.mono (by decide)) (by rfl) T.g_take T.F_take.kp T.B_take .nil pass0 (pa_cons (pv 0) (pa_cons pe_int pa_nil))) pa_nil))))) po_none (po_some pe_int)) pa_nil)) (pg_sub (pv 4) pe_str (set_dict (hu_of hr))))
  (pss_cons (ps_asg (pe_callTy (call_dictP rfl) (by rfl) T.b_dict (by decide +kernel) (pa_cons (pe_slice sl_listN (pe_lc (own := [("_law_name", 8)]) (g := gName 8) rfl sc_access.nd (pi_list (pv 3)) (blkOk_by (own := [("_law_name", 8)]) (N := N_access) (sc := defScope s_access) (by decide +kernel)) (fun _ _ _ _ _ => pg_name (i := 8) sc_access.nd rfl (Or.inl rfl)) (fun _ _ _ _ _ => (pts_one (pt_cmpR op_eq (pe_call (ok_take T) (hr.mono (by decide)) (by rfl) T.g_take T.F_take.kp T.B_take .nil pass0 (pa_cons (pv 0) (pa_cons pe_int pa_nil))) pe_int (nomark _)))) (fun _ _ _ _ _ => (pe_tupN (pa_cons (pv 8) (pa_cons (pe_call (ok_take T) (hr.mono (by decide)) (by rfl) T.g_take T.F_take.kp T.B_take .nil pass0 (pa_cons (pv 0) (pa_cons pe_int pa_nil))) pa_nil))))) po_none (po_some pe_int)) pa_nil)) (pg_sub (pv 4) pe_str (set_dict (hu_of hr))))
  (pss_cons (ps_set (i := 6) sc_access.nd rfl (.inl rfl) (pe_op op_catN (pe_callTy (call_lVals rfl) (by rfl) T.b_list (by decide +kernel) (pa_cons (pe_bm0 PySem.F.plainAttrs_dict PySem.F.slot_dict_values PySem.F.type_dict_values mt_valuesK (pe_dget (hu_of hr) (pv 4) pe_str (fun _ _ => rfl))) pa_nil)) (pe_callTy (call_lVals rfl) (by rfl) T.b_list (by decide +kernel) (pa_cons (pe_bm0 PySem.F.plainAttrs_dict PySem.F.slot_dict_values PySem.F.type_dict_values mt_valuesK (pe_dget (hu_of hr) (pv 4) pe_str (fun _ _ => rfl))) pa_nil))))
  (pss_cons (ps_if (pt_cmpR op_eq (pe_call (ok_take T) (hr.mono (by decide)) (by rfl) T.g_take T.F_take.kp T.B_take .nil pass0 (pa_cons (pv 0) (pa_cons pe_int pa_nil))) pe_int (nomark _)) (pss_one (ps_asg (pe_call (ok_take T) (hr.mono (by decide)) (by rfl) T.g_take T.F_take.kp T.B_take .nil pass0 (pa_cons (pv 0) (pa_cons pe_int pa_nil))) (pg_sub (pv 4) pe_str (set_dict (hu_of hr))))) (pss_one (ps_if (pt_cmpR (op_neD hr.units) (pv 6) (pe_lstS pa_nil) (nomark _)) (pss_cons (ps_asg (pe_dget (hu_of hr) (pv 4) pe_str (fun _ _ => rfl)) (pg_sub (pv 4) pe_str (set_dict (hu_of hr))))
  (pss_one (ps_for PassesOwn.never rfl (pi_list (pv 6)) (pg_name (i := 7) sc_access.nd rfl (.inl rfl)) (pss_one (ps_asg (pe_op op_or (pe_dget (hu_of hr) (pv 4) pe_str (fun _ _ => rfl)) (pv 7)) (pg_sub (pv 4) pe_str (set_dict (hu_of hr)))))))) pss_nil)))
  (pss_one (ps_ret (pv 4)))))))))), ?_⟩
    have nba : b ≠ a := ne_of hb ml.hd (fun z => by cases z)
    have l6 := gd.l6
    rw [mEs_len] at l6
    refine ⟨_, rfl, a, _, rfl, .inl ml.hd, fun p1 n1 => ?_⟩
    have W1 : Ow H [b] (upd H p1 (.lst ((dEs es).map fun kv => kV kv.1))) [(p1, .lst ((dEs es).map fun kv => kV kv.1)), (b, bagO x y z)] := (Ow.start1 hb).new n1
    generalize upd H p1 (.lst ((dEs es).map fun kv => kV kv.1)) = H1 at W1 ⊢
    refine ⟨(show 1 ≤ sizeLine by decide), NewS.mk fun p2 H2 n2 s2 k2 h2 => ?_⟩
    have W2 := W1.res (W1.call0 k2) n2 h2
    refine ⟨p1, p2, _, _, rfl, rfl, W2.get 1 rfl, h2, size_le ?_, NewO.mk fun p3 H3 n3 k3 h3 => ?_⟩
    · rw [List.length_map, dEs_len, List.length_singleton]
      omega
    have W3 := (W2.res (W2.call0 k3) n3 h3).sel (L' := [(p3, .lst ((((dEs es).map fun kv => kV kv.1)) ++ [.str (Str.ofString "stranger")])), (b, bagO x y z)]) (.cons₂ _ (.cons _ (.cons _ (.cons₂ _ .slnil))))
    have ml3 : ML H3 a es := ⟨W3.keep _ _ ml.hd (by simpa using Ne.symm nba), fun e he => W3.keep _ _ (ml.hl e he) (by simpa using ne_of (ml.hl e he) hb (Ne.symm bag_ne))⟩
    refine ⟨_, rfl, a, es, rfl, ml3, gd, NewO.mk fun p4 H4 n4 k4 h4 => ?_⟩
    have W4 := W3.res (W3.call0 k4) n4 h4
    refine ⟨(show 1 ≤ sizeLine by decide), NewS.mk fun p5 H5 n5 s5 k5 h5 => ?_⟩
    have W5 := W4.res (W4.call0 k5) n5 h5
    have lg : (gsOf (mEs es)).length ≤ 6 := gs_len gd
    refine ⟨p4, p5, _, _, rfl, rfl, W5.get 1 rfl, h5, size_le ?_, NewO.mk fun p6 H6 n6 k6 h6 => ?_⟩
    · rw [List.length_map, List.length_singleton]
      omega
    have W6 := (W5.res (W5.call0 k6) n6 h6).sel (L' := [(p6, .lst ((gsOf (mEs es)).map V.str ++ [.str (Str.ofString "strange")])), (p3, .lst ((((dEs es).map fun kv => kV kv.1)) ++ [.str (Str.ofString "stranger")])), (b, bagO x y z)]) (.cons₂ _ (.cons _ (.cons _ (.cons₂ _ (.cons₂ _ .slnil)))))
    obtain ⟨fs, ef, uf, lf⟩ : ∃ fs : List Str, (((dEs es).map fun kv => kV kv.1)) ++ [V.str (Str.ofString "stranger")] = fs.map V.str ∧ Uss fs ∧ fs.length ≤ 7 := by
      refine ⟨(mEs es).map (·.1) ++ [Str.ofString "stranger"], by rw [dEs_keys, List.map_append]; rfl, fun x hx => ?_, by rw [List.length_append, List.length_map, mEs_len, List.length_singleton]; omega⟩
      rcases List.mem_append.mp hx with hx | hx
      · obtain ⟨e, he, rfl⟩ := List.mem_map.mp hx
        exact gd.us e he
      · rw [List.mem_singleton.mp hx]; exact us_stranger
    obtain ⟨bs, ebs, ub, lb⟩ : ∃ bs : List Str, (gsOf (mEs es)).map V.str ++ [V.str (Str.ofString "strange")] = bs.map V.str ∧ Uss bs ∧ bs.length ≤ 7 := by
      refine ⟨gsOf (mEs es) ++ [Str.ofString "strange"], by rw [List.map_append]; rfl, fun x hx => ?_, by rw [List.length_append, List.length_singleton]; omega⟩
      rcases List.mem_append.mp hx with hx | hx
      · exact gs_us gd x hx
      · rw [List.mem_singleton.mp hx]; exact us_strange
    rw [ef, ebs] at W6
    clear W5 W4 W3 W2 W1 k2 h2 n2 k3 h3 n3 k4 h4 n4 k5 h5 n5 k6 h6 n6 ml3
    refine ⟨_, _, rfl, ?_⟩
    intro s hs
    refine ⟨upd_same, [(Sum.inr (Str.ofString "mask"), .non)], rfl, by decide, ?_⟩
    rw [upd_again]
    have W7 := W6.new (o := .dK (mergeK [] [(Sum.inr (Str.ofString "mask"), V.non)])) hs
    generalize upd H6 s (.dK (mergeK [] [(Sum.inr (Str.ofString "mask"), V.non)])) = H7 at W7 ⊢
    have e7 : mergeK [] [((Sum.inr (Str.ofString "mask") : L2.Key), V.non)] = (sK3 0 0 0).take 1 := rfl
    rw [e7] at W7
    refine ⟨(show 3 ≤ sizeLine by decide), NewS.mk fun l8 H8 n8 s8 k8 h8 => ?_⟩
    have W8 := W7.res (W7.call0 k8) n8 h8
    refine ⟨l8, rfl, ⟨_, W8.sq 0 rfl⟩, ?_⟩
    refine for_it (walk_list (xs := kinds)) (fun i σ H' => ∃ y5 d0 d1 d2 x y z, σ = [some (.ref b), some (.ref a), some (.ref p3), some (.ref p6), some (.ref s), y5, none, none, none] ∧ (0 ≤ d0 ∧ d0 ≤ 7) ∧ (0 ≤ d1 ∧ d1 ≤ 7) ∧ (0 ≤ d2 ∧ d2 ≤ 7) ∧ BagOk (n + 2 * i) x y z ∧ Ow H [b] H' [(l8, .lst kinds), (s, .dK ((sK3 d0 d1 d2).take (i + 1))), (p6, .lst (bs.map V.str)), (p3, .lst (fs.map V.str)), (b, bagO x y z)]) ⟨none, 0, 0, 0, _, _, _, rfl, by decide, by decide, by decide, ok, W8⟩ (fun i σ H' _ h => ?_) ?_ ?_
    · obtain ⟨_, _, _, _, _, _, _, _, _, _, _, _, W⟩ := h
      exact W.sq 0 rfl
    · rintro i v σ H9 H9' hi ⟨y5, d0, d1, d2, x9, y9, z9, rfl, b0, b1, b2, ok9, W9⟩ ⟨rfl, hx⟩
      clear W8 W7 W6
      have hi3 : i < 3 := hi
      refine ⟨_, rfl, b, 8, n + 2 * i, _, _, _, rfl, W9.get 4 rfl, ok9, by omega, by decide, by decide, fun t8 x10 y10 z10 H10 c0 c1 ok10 k10 hb10 => ?_⟩
      have W10 := W9.any1 4 rfl k10 hb10
      refine ⟨(show 3 ≤ sizeLine by decide), NewS.mk fun l11 H11 n11 s11 k11 h11 => ?_⟩
      have W11 := W10.res (W10.call0 k11) n11 h11
      refine ⟨_, rfl, b, 3, n + 2 * i + 1, _, _, _, rfl, W11.get 5 rfl, ok10, by omega, by decide, by decide, fun t12 x12 y12 z12 H12 e0 e1 ok12 k12 hb12 => ?_⟩
      have W12 := W11.any1 5 rfl k12 hb12
      obtain ⟨j, rfl⟩ := Int.eq_ofNat_of_zero_le e0
      obtain ⟨r, er, r0, r1⟩ : ∃ r : Int, [V.int t8, V.int 7, V.int 0][j]? = some (.int r) ∧ 0 ≤ r ∧ r ≤ 7 := by
        have j3 : j = 0 ∨ j = 1 ∨ j = 2 := by omega
        rcases j3 with rfl | rfl | rfl
        · exact ⟨t8, rfl, c0, by omega⟩
        · exact ⟨7, rfl, by decide, by decide⟩
        · exact ⟨0, rfl, by decide, by decide⟩
      refine ⟨l11, _, _, .int r, rfl, rfl, W12.sq 0 rfl, atI_nat er, ?_⟩
      have ok13 : BagOk (n + 2 * (i + 1)) x12 y12 z12 := ok12.mono (by omega)
      have i3 : i = 0 ∨ i = 1 ∨ i = 2 := by omega
      have sub : ∀ o : HO, Ow H [b] (upd H12 s o) ([(l11, .lst [V.int t8, V.int 7, V.int 0]), (l8, .lst kinds), (s, .dK ((sK3 d0 d1 d2).take (i + 1))), (p6, .lst (bs.map V.str)), (p3, .lst (fs.map V.str)), (b, bagO x12 y12 z12)].set 2 (s, o)) := fun o => W12.set 2 rfl
      rcases i3 with rfl | rfl | rfl
      · obtain rfl : V.str (Str.ofString "owner") = v := Option.some.inj hx
        refine ⟨_, rfl, _, rfl, s, _, rfl, .inl ⟨_, Sum.inr (Str.ofString "owner"), W12.get 2 rfl, rfl, by show 1 < sizeLine; decide, rfl⟩, ?_⟩
        exact ⟨_, r, d1, d2, _, _, _, rfl, ⟨r0, r1⟩, b1, b2, ok13, (sub (.dK ((sK3 r d1 d2).take 2))).tail⟩
      · obtain rfl : V.str (Str.ofString "group") = v := Option.some.inj hx
        refine ⟨_, rfl, _, rfl, s, _, rfl, .inl ⟨_, Sum.inr (Str.ofString "group"), W12.get 2 rfl, rfl, by show 2 < sizeLine; decide, rfl⟩, ?_⟩
        exact ⟨_, d0, r, d2, _, _, _, rfl, b0, ⟨r0, r1⟩, b2, ok13, (sub (.dK ((sK3 d0 r d2).take 3))).tail⟩
      · obtain rfl : V.str (Str.ofString "other") = v := Option.some.inj hx
        refine ⟨_, rfl, _, rfl, s, _, rfl, .inl ⟨_, Sum.inr (Str.ofString "other"), W12.get 2 rfl, rfl, by show 3 < sizeLine; decide, rfl⟩, ?_⟩
        exact ⟨_, d0, d1, r, _, _, _, rfl, b0, b1, ⟨r0, r1⟩, ok13, (sub (.dK ((sK3 d0 d1 r).take 4))).tail⟩
    · rintro σ H9 ⟨y5, d0, d1, d2, x9, y9, z9, rfl, b0, b1, b2, ok9, W9⟩
      clear W8 W7 W6
      have W9 := W9.tail
      have ok9 : BagOk (n + 6) x9 y9 z9 := ok9
      refine ⟨_, rfl, p3, rfl, ⟨_, W9.sq 2 rfl⟩, fun D hD => ?_⟩
      refine lc_it (walk_list (xs := fs.map V.str)) (fun i H' => ∃ ps m x y z, m.length ≤ i ∧ PI H' ps m ∧ BagOk (n + 6 + 2 * i) x y z ∧ Ow H [b] H' [(D, .lst (ps.map V.ref)), (s, .dK (sK3 d0 d1 d2)), (p6, .lst (bs.map V.str)), (p3, .lst (fs.map V.str)), (b, bagO x y z)]) ⟨[], [], _, _, _, Nat.le_refl _, ⟨.nil, fun e he => by cases he⟩, ok9, W9.new hD⟩ (fun i H' _ h => ?_) (fun i v H10 H10' hi h10 y10 => ?_) (fun H10 h10 => ?_)
      · obtain ⟨_, _, _, _, _, _, _, _, W⟩ := h
        exact W.sq 3 rfl
      · obtain ⟨rfl, hx⟩ := y10
        obtain ⟨ps, m, x10, y10, z10, lm, pi, ok10, W10⟩ := h10
        have hi7 : i < 7 := by rw [List.length_map] at hi; omega
        rw [List.getElem?_map] at hx
        obtain ⟨u, hu, rfl⟩ := Option.map_eq_some_iff.mp hx
        have uu := uf u (List.mem_of_getElem? hu)
        refine ⟨rfl, _, rfl, b, 3, n + 6 + 2 * i, _, _, _, rfl, W10.get 4 rfl, ok10, by omega, by decide, by decide, fun t11 x11 y11 z11 H11 c0 c1 ok11 k11 hb11 => ?_⟩
        have W11 := W10.any1 4 rfl k11 hb11
        have pi11 := pi.keep k11 (fun a ha => by rw [List.mem_singleton.mp ha]; exact ⟨_, W10.get 4 rfl, fun _ z => by cases z⟩)
        refine ⟨rfl, _, rfl, ?_⟩
        show if decide (V.int t11 = V.int 0) = true then _ else _
        refine ifB (fun c => ?_) (fun c => ?_)
        · refine ⟨_, rfl, _, rfl, b, 8, n + 6 + 2 * i + 1, _, _, _, rfl, W11.get 4 rfl, ok11, by omega, by decide, by decide, fun t12 x12 y12 z12 H12 e0 e1 ok12 k12 hb12 => ?_⟩
          have W12 := W11.any1 4 rfl k12 hb12
          have pi12 := pi11.keep k12 (fun a ha => by rw [List.mem_singleton.mp ha]; exact ⟨_, W11.get 4 rfl, fun _ z => by cases z⟩)
          refine ⟨(show 2 ≤ sizeLine by decide), NewO.mk fun t13 H13 n13 k13 h13 => ?_⟩
          have W13 := W12.call0 k13
          have pi13 := (pi12.keep k13 (fun a ha => by cases ha)).snoc h13 uu e0 (by omega)
          refine ⟨_, W13.get 0 rfl, size_ok (by rw [List.length_map, Paired.length pi.pr]; omega), ps ++ [t13], m ++ [(u, t12)], _, _, _, by simp; omega, ?_, ok12.mono (by omega), ?_⟩
          · exact pi13.keep keep_upd (fun a ha => by rw [List.mem_singleton.mp ha]; exact ⟨_, W13.get 0 rfl, fun _ z => by cases z⟩)
          · have := W13.set (o' := .lst (ps.map V.ref ++ [.ref t13])) 0 rfl
            rw [List.map_append]
            exact this
        · exact ⟨ps, m, _, _, _, by omega, pi11, ok11.mono (by omega), W11⟩
      · obtain ⟨ps, m, x10, y10, z10, lm, pi, ok10, W10⟩ := h10
        rw [List.length_map] at lm ok10
        refine ⟨6, rfl, D, _, rfl, W10.sq 0 rfl, NewO.mk fun l11 H11 n11 k11 h11 => ?_⟩
        have W11 := W10.res (W10.call0 k11) n11 h11
        rw [show (6 : Int) = ((6 : Nat) : Int) by rfl, cutV_to, ← List.map_take] at h11 W11
        have pi11 := pi.keep k11 (fun a ha => by cases ha)
        have pt : PI H11 (ps.take 6) (m.take 6) := ⟨paired_take pi11.pr 6, fun e he => pi11.ok e (List.mem_of_mem_take he)⟩
        refine ⟨l11, ps.take 6, iKV (m.take 6), rfl, W11.sq 0 rfl, pt.kvs, fun ud nud => ?_⟩
        have W12 := W11.new (o := .dK (mergeK [] (iKV (m.take 6)))) nud
        obtain ⟨mu, du, lu⟩ := Dn.merge (m.take 6) (kvs := []) (m := []) ⟨.nil, List.nodup_nil, (fun e he => by cases he), (fun e he => by cases he)⟩ pt.ok
        have lu6 : mu.length ≤ 6 := by
          rw [List.length_take, List.length_nil] at lu
          omega
        generalize mergeK [] (iKV (m.take 6)) = ku at W12 du ⊢
        generalize upd H11 ud (.dK ku) = H12 at W12 ⊢
        refine ⟨_, rfl, s, _, rfl, .inl ⟨_, Sum.inr (Str.ofString "users"), W12.get 3 rfl, rfl, by show 4 < sizeLine; decide, rfl⟩, ?_⟩
        have W13 : Ow H [b] (upd H12 s (.dK (sK3 d0 d1 d2 ++ [(Sum.inr (Str.ofString "users"), .ref ud)]))) [(ud, .dK ku), (s, .dK (sK3 d0 d1 d2 ++ [(Sum.inr (Str.ofString "users"), .ref ud)])), (p6, .lst (bs.map V.str)), (p3, .lst (fs.map V.str)), (b, bagO x10 y10 z10)] := (W12.set 3 rfl).sel (.cons₂ _ (.cons _ (.cons _ (.cons₂ _ (.cons₂ _ (.cons₂ _ (.cons₂ _ .slnil)))))))
        have ok13 : BagOk (n + 20) x10 y10 z10 := ok10.mono (by omega)
        have e13 : putK (sK3 d0 d1 d2) (Sum.inr (Str.ofString "users")) (.ref ud) = sK3 d0 d1 d2 ++ [(Sum.inr (Str.ofString "users"), .ref ud)] := rfl
        rw [e13]
        generalize upd H12 s (.dK (sK3 d0 d1 d2 ++ [(Sum.inr (Str.ofString "users"), .ref ud)])) = H13 at W13 ⊢
        clear W12 W11 W10 W9 pi11 pt pi nud h11 n11 k11 hD lu lm ok10 ok9
        clear m ps
        have W13 := W13.sel (L' := [(ud, .dK ku), (s, .dK (sK3 d0 d1 d2 ++ [(Sum.inr (Str.ofString "users"), .ref ud)])), (p6, .lst (bs.map V.str)), (b, bagO x10 y10 z10)]) (.cons₂ _ (.cons₂ _ (.cons₂ _ (.cons _ (.cons₂ _ .slnil)))))
        refine ⟨_, rfl, p6, rfl, ⟨_, W13.sq 2 rfl⟩, fun D hD => ?_⟩
        refine lc_it (walk_list (xs := bs.map V.str)) (fun i H' => ∃ ps m x y z, m.length ≤ i ∧ PI H' ps m ∧ BagOk (n + 20 + 2 * i) x y z ∧ Ow H [b] H' [(D, .lst (ps.map V.ref)), (ud, .dK ku), (s, .dK (sK3 d0 d1 d2 ++ [(Sum.inr (Str.ofString "users"), V.ref ud)])), (p6, .lst (bs.map V.str)), (b, bagO x y z)]) ⟨[], [], _, _, _, Nat.le_refl _, ⟨.nil, fun e he => by cases he⟩, ok13, W13.new hD⟩ (fun i H' _ h => ?_) (fun i v H10 H10' hi h10 y10 => ?_) (fun H10 h10 => ?_)
        · obtain ⟨_, _, _, _, _, _, _, _, W⟩ := h
          exact W.sq 3 rfl
        · obtain ⟨rfl, hx⟩ := y10
          obtain ⟨ps, m, x10, y10, z10, lm, pi, ok10, W10⟩ := h10
          have hi7 : i < 7 := by rw [List.length_map] at hi; omega
          rw [List.getElem?_map] at hx
          obtain ⟨u, hu, rfl⟩ := Option.map_eq_some_iff.mp hx
          have uu := ub u (List.mem_of_getElem? hu)
          refine ⟨rfl, _, rfl, b, 2, n + 20 + 2 * i, _, _, _, rfl, W10.get 4 rfl, ok10, by omega, by decide, by decide, fun t11 x11 y11 z11 H11 c0 c1 ok11 k11 hb11 => ?_⟩
          have W11 := W10.any1 4 rfl k11 hb11
          have pi11 := pi.keep k11 (fun a ha => by rw [List.mem_singleton.mp ha]; exact ⟨_, W10.get 4 rfl, fun _ z => by cases z⟩)
          refine ⟨rfl, _, rfl, ?_⟩
          show if decide (V.int t11 = V.int 0) = true then _ else _
          refine ifB (fun c => ?_) (fun c => ?_)
          · refine ⟨_, rfl, _, rfl, b, 8, n + 20 + 2 * i + 1, _, _, _, rfl, W11.get 4 rfl, ok11, by omega, by decide, by decide, fun t12 x12 y12 z12 H12 e0 e1 ok12 k12 hb12 => ?_⟩
            have W12 := W11.any1 4 rfl k12 hb12
            have pi12 := pi11.keep k12 (fun a ha => by rw [List.mem_singleton.mp ha]; exact ⟨_, W11.get 4 rfl, fun _ z => by cases z⟩)
            refine ⟨(show 2 ≤ sizeLine by decide), NewO.mk fun t13 H13 n13 k13 h13 => ?_⟩
            have W13 := W12.call0 k13
            have pi13 := (pi12.keep k13 (fun a ha => by cases ha)).snoc h13 uu e0 (by omega)
            refine ⟨_, W13.get 0 rfl, size_ok (by rw [List.length_map, Paired.length pi.pr]; omega), ps ++ [t13], m ++ [(u, t12)], _, _, _, by simp; omega, ?_, ok12.mono (by omega), ?_⟩
            · exact pi13.keep keep_upd (fun a ha => by rw [List.mem_singleton.mp ha]; exact ⟨_, W13.get 0 rfl, fun _ z => by cases z⟩)
            · have := W13.set (o' := .lst (ps.map V.ref ++ [.ref t13])) 0 rfl
              rw [List.map_append]
              exact this
          · exact ⟨ps, m, _, _, _, by omega, pi11, ok11.mono (by omega), W11⟩
        · obtain ⟨ps, m, x10, y10, z10, lm, pi, ok10, W10⟩ := h10
          rw [List.length_map] at lm ok10
          refine ⟨6, rfl, D, _, rfl, W10.sq 0 rfl, NewO.mk fun l11 H11 n11 k11 h11 => ?_⟩
          have W11 := W10.res (W10.call0 k11) n11 h11
          rw [show (6 : Int) = ((6 : Nat) : Int) by rfl, cutV_to, ← List.map_take] at h11 W11
          have pi11 := pi.keep k11 (fun a ha => by cases ha)
          have pt : PI H11 (ps.take 6) (m.take 6) := ⟨paired_take pi11.pr 6, fun e he => pi11.ok e (List.mem_of_mem_take he)⟩
          refine ⟨l11, ps.take 6, iKV (m.take 6), rfl, W11.sq 0 rfl, pt.kvs, fun vd nvd => ?_⟩
          have W12 := W11.new (o := .dK (mergeK [] (iKV (m.take 6)))) nvd
          obtain ⟨mg, dg, lg2⟩ := Dn.merge (m.take 6) (kvs := []) (m := []) ⟨.nil, List.nodup_nil, (fun e he => by cases he), (fun e he => by cases he)⟩ pt.ok
          have lg6 : mg.length ≤ 6 := by
            rw [List.length_take, List.length_nil] at lg2
            omega
          generalize mergeK [] (iKV (m.take 6)) = kg at W12 dg ⊢
          generalize upd H11 vd (.dK kg) = H12 at W12 ⊢
          refine ⟨_, rfl, s, _, rfl, .inl ⟨_, Sum.inr (Str.ofString "groups"), W12.get 4 rfl, rfl, by show 5 < sizeLine; decide, rfl⟩, ?_⟩
          have e14 : putK (sK3 d0 d1 d2 ++ [(Sum.inr (Str.ofString "users"), V.ref ud)]) (Sum.inr (Str.ofString "groups")) (.ref vd) = sK5 .non d0 d1 d2 ud vd := rfl
          rw [e14]
          have W14 : Ow H [b] (upd H12 s (.dK (sK5 .non d0 d1 d2 ud vd))) [(vd, .dK kg), (ud, .dK ku), (s, .dK (sK5 .non d0 d1 d2 ud vd)), (b, bagO x10 y10 z10)] := (W12.set 4 rfl).sel (.cons₂ _ (.cons _ (.cons _ (.cons₂ _ (.cons₂ _ (.cons _ (.cons₂ _ .slnil)))))))
          have ok14 : BagOk (n + 34) x10 y10 z10 := ok10.mono (by omega)
          generalize upd H12 s (.dK (sK5 .non d0 d1 d2 ud vd)) = H14 at W14 ⊢
          clear W12 W11 W10 W13 pi11 pt pi nvd h11 n11 k11 hD lg2 lm ok10 ok13
          clear m ps
          have rdu := W14.get 1 rfl
          have rdg := W14.get 0 rfl
          refine ⟨_, rfl, s, _, rfl, .inl ⟨_, Sum.inr (Str.ofString "users"), .inl (W14.get 2 rfl), rfl, rfl⟩, .inr (.inr (.inl ⟨rfl, .inl ⟨_, rdu⟩⟩)), ud, _, rfl, rfl, rdu, fun p1 n1 => ?_⟩
          have W15 := W14.new (o := valuesO p1 ud) n1
          generalize upd H14 p1 (valuesO p1 ud) = H15 at W15 ⊢
          refine ⟨p1, ud, _, rfl, W15.get 0 rfl, W15.get 2 rfl, NewO.mk fun p2 H16 n2 k2 h2 => ?_⟩
          have W16 := W15.res (W15.call0 k2) n2 h2
          refine ⟨_, rfl, s, _, rfl, .inl ⟨_, Sum.inr (Str.ofString "groups"), .inl (W16.get 4 rfl), rfl, rfl⟩, .inr (.inr (.inl ⟨rfl, .inl ⟨_, W16.get 2 rfl⟩⟩)), vd, _, rfl, rfl, W16.get 2 rfl, fun p17 n3 => ?_⟩
          have W17 := W16.new (o := valuesO p17 vd) n3
          generalize upd H16 p17 (valuesO p17 vd) = H17 at W17 ⊢
          refine ⟨p17, vd, _, rfl, W17.get 0 rfl, W17.get 3 rfl, NewO.mk fun p4 H18 n4 k4 h4 => ?_⟩
          have W18 := W17.res (W17.call0 k4) n4 h4
          refine ⟨p2, p4, _, _, rfl, rfl, W18.get 2 rfl, h4, size_le (by rw [List.length_map, List.length_map, du.dv.len, dg.dv.len]; omega), NewO.mk fun pn H19 n19 k19 h19 => ?_⟩
          have W19 := W18.res (W18.call0 k19) n19 h19
          have fin : ∀ (ma : Option Int) (Hf : Hp) (x' y' z' : Int), Ow H [b] Hf [(vd, .dK kg), (ud, .dK ku), (s, .dK (sK5 (ma.elim .non .int) d0 d1 d2 ud vd)), (b, bagO x' y' z')] → BagOk (n + 50) x' y' z' → ((ma = none ∧ mu = [] ∧ mg = []) ∨ ∃ d, ma = some d ∧ 0 ≤ d ∧ d ≤ 7) → Q (.ref s) Hf := fun ma Hf x' y' z' W o hm =>
            q s ⟨d0, d1, d2, mu, mg, ma⟩ x' y' z' Hf ⟨_, ud, vd, ku, kg, ⟨W.get 2 rfl, by cases ma <;> rfl, rfl, rfl, rfl, rfl, rfl, W.get 1 rfl, W.get 0 rfl, du.dv, dg.dv, by cases ma <;> rfl⟩⟩ ⟨b0, b1, b2, du.dg lu6, dg.dg lg6, hm⟩ o W.keep (W.get 3 rfl)
          rw [dv_vals du.dv, dv_vals dg.dv, ← List.map_append] at W19
          have W20 : Ow H [b] H19 [(pn, .lst ((mu.map (·.2) ++ mg.map (·.2)).map V.int)), (vd, .dK kg), (ud, .dK ku), (s, .dK (sK5 .non d0 d1 d2 ud vd)), (b, bagO x10 y10 z10)] := W19.sel (.cons₂ _ (.cons _ (.cons _ (.cons _ (.cons _ (.cons₂ _ (.cons₂ _ (.cons₂ _ (.cons₂ _ .slnil)))))))))
          have all : ∀ d ∈ mu.map (·.2) ++ mg.map (·.2), 0 ≤ d ∧ d ≤ 7 := fun d hd => by
            rcases List.mem_append.mp hd with hd | hd
            · obtain ⟨e, he, rfl⟩ := List.mem_map.mp hd
              exact du.ds e he
            · obtain ⟨e, he, rfl⟩ := List.mem_map.mp hd
              exact dg.ds e he
          have nil : mu.map (·.2) ++ mg.map (·.2) = [] → mu = [] ∧ mg = [] := fun e => by
            rw [List.append_eq_nil_iff, List.map_eq_nil_iff, List.map_eq_nil_iff] at e
            exact e
          have lns : (mu.map (·.2) ++ mg.map (·.2)).length ≤ 12 := by
            rw [List.length_append, List.length_map, List.length_map]
            omega
          generalize mu.map (·.2) ++ mg.map (·.2) = ns at W20 all nil lns
          clear W19 W18 W17 W16 W15 W14 n1 n2 k2 h2 n3 n4 k4 h4 n19 k19 h19 rdu rdg
          refine ⟨_, rfl, b, 3, n + 34, _, _, _, rfl, W20.get 4 rfl, ok14, by omega, by decide, by decide, fun t21 x21 y21 z21 H21 c0 c1 ok21 k21 hb21 => ?_⟩
          have W21 := W20.any1 4 rfl k21 hb21
          refine ⟨rfl, _, rfl, ?_⟩
          show if decide (V.int t21 = V.int 0) = true then _ else _
          refine ifB (fun c => ?_) (fun c => ?_)
          · refine ⟨_, rfl, b, 8, n + 34 + 1, _, _, _, rfl, W21.get 4 rfl, ok21, by omega, by decide, by decide, fun t22 x22 y22 z22 H22 e0 e1 ok22 k22 hb22 => ?_⟩
            have W22 := W21.any1 4 rfl k22 hb22
            refine ⟨_, rfl, s, _, rfl, .inl ⟨_, Sum.inr (Str.ofString "mask"), W22.get 3 rfl, rfl, by show 6 < sizeLine; decide, rfl⟩, ?_⟩
            have e14 : putK (sK5 .non d0 d1 d2 ud vd) (Sum.inr (Str.ofString "mask")) (.int t22) = sK5 (.int t22) d0 d1 d2 ud vd := rfl
            rw [e14]
            refine ⟨_, rfl, ?_⟩
            exact fin (some t22) _ _ _ _ ((W22.set (o' := .dK (sK5 (.int t22) d0 d1 d2 ud vd)) 3 rfl).tail) (ok22.mono (by omega)) (.inr ⟨t22, rfl, e0, by omega⟩)
          · refine ⟨_, rfl, Nat.zero_le _, NewS.mk fun l22 H22 n22 s22 k22 h22 => ?_⟩
            have W22 := W21.call0 k22
            refine ⟨.list (ns.map PyData.int), .list [], .lst (.inl (.inl (W22.get 0 rfl))) (dp_ints ns), .lst (.inl (.inl h22)) .nil, shaped_ints ns, rfl, ?_⟩
            rw [eqv_ints]
            refine ⟨_, rfl, ?_⟩
            refine ifN (fun e => ?_) (fun e => ?_)
            · refine ⟨_, rfl, s, _, rfl, .inl ⟨_, Sum.inr (Str.ofString "group"), .inl (W22.get 3 rfl), rfl, rfl⟩, ?_⟩
              refine ⟨_, rfl, s, _, rfl, .inl ⟨_, Sum.inr (Str.ofString "mask"), W22.get 3 rfl, rfl, by show 6 < sizeLine; decide, rfl⟩, ?_⟩
              have e14 : putK (sK5 .non d0 d1 d2 ud vd) (Sum.inr (Str.ofString "mask")) (.int d1) = sK5 (.int d1) d0 d1 d2 ud vd := rfl
              rw [e14]
              have W23 := W22.set (o' := .dK (sK5 (.int d1) d0 d1 d2 ud vd)) 3 rfl
              refine ⟨_, rfl, pn, rfl, ⟨_, W23.sq 0 rfl⟩, ?_⟩
              refine for_it (walk_list (xs := ns.map V.int)) (fun i σ H' => ∃ y7 dm, σ = [some (.ref b), some (.ref a), some (.ref p3), some (.ref p6), some (.ref s), y5, some (.ref pn), y7, none] ∧ (0 ≤ dm ∧ dm ≤ 7) ∧ Ow H [b] H' [(pn, .lst (ns.map V.int)), (vd, .dK kg), (ud, .dK ku), (s, .dK (sK5 (.int dm) d0 d1 d2 ud vd)), (b, bagO x21 y21 z21)]) ⟨none, d1, rfl, b1, W23⟩ (fun i σ H' _ h => ?_) ?_ ?_
              · obtain ⟨_, _, _, _, W⟩ := h
                exact W.sq 0 rfl
              · rintro i v σ H24 H24' hi ⟨y7, dm, rfl, bm, W24⟩ ⟨rfl, hx⟩
                rw [List.getElem?_map] at hx
                obtain ⟨d, hd, rfl⟩ := Option.map_eq_some_iff.mp hx
                have bd := all d (List.mem_of_getElem? hd)
                refine ⟨_, rfl, s, _, rfl, .inl ⟨_, Sum.inr (Str.ofString "mask"), .inl (W24.get 3 rfl), rfl, rfl⟩, _, rfl, _, _, rfl, rfl, ?_⟩
                refine ⟨_, rfl, s, _, rfl, .inl ⟨_, Sum.inr (Str.ofString "mask"), W24.get 3 rfl, rfl, by show 6 < sizeLine; decide, rfl⟩, ?_⟩
                exact ⟨_, Builtin.bitOr dm d, rfl, or_in bm.1 bm.2 bd.1 bd.2, W24.set (o' := .dK (sK5 (.int (Builtin.bitOr dm d)) d0 d1 d2 ud vd)) 3 rfl⟩
              · rintro σ H24 ⟨y7, dm, rfl, bm, W24⟩
                refine ⟨_, rfl, ?_⟩
                exact fin (some dm) _ _ _ _ W24.tail (ok21.mono (by omega)) (.inr ⟨dm, rfl, bm⟩)
            · refine ⟨_, rfl, ?_⟩
              exact fin none _ _ _ _ W22.tail (ok21.mono (by omega)) (.inl ⟨rfl, nil e⟩)
end
end K26
namespace K26
open PySem PySem.Spec PyProof.Rows L2 FR TL
open C8 (pss_cut pe_gc)
open StX (pe_callS2 pa_star)
/-! what the letters come to -/
def In8 (x : Int) : Prop := 0 ≤ x ∧ x ≤ 7
theorem In8.fin {x : Int} (h : In8 x) : ∃ k : Fin 8, x = (k.1 : Int) := ⟨⟨x.toNat, by have := h.1; have := h.2; omega⟩, by have := h.1; show x = (x.toNat : Int); omega⟩
def has (x k : Int) : Bool := decide (Builtin.bitAnd x k = k)
def tot (x : Int) : Int := (if has x 4 = true then 4 else 0) + (if has x 2 = true then 2 else 0) + (if has x 1 = true then 1 else 0)
theorem tot_fin : ∀ a : Fin 8, tot (a.1 : Int) = (a.1 : Int) := by decide +kernel
theorem or_fin : ∀ a b : Fin 8, (has (Builtin.bitOr (a.1 : Int) (b.1 : Int)) 4 = (has (a.1 : Int) 4 || has (b.1 : Int) 4)) ∧ (has (Builtin.bitOr (a.1 : Int) (b.1 : Int)) 2 = (has (a.1 : Int) 2 || has (b.1 : Int) 2)) ∧ (has (Builtin.bitOr (a.1 : Int) (b.1 : Int)) 1 = (has (a.1 : Int) 1 || has (b.1 : Int) 1)) := by decide +kernel
def orD (ts : Tr) (a : Int) : Int := ts.foldl (fun x e => Builtin.bitOr x e.2.2) a
def DgT (ts : Tr) : Prop := ∀ e ∈ ts, In8 e.2.2
theorem orD_in : ∀ {ts : Tr} {a : Int}, DgT ts → In8 a → In8 (orD ts a)
  | [], _, _, h => h
  | e :: r, a, h, ha => by
    show In8 (orD r (Builtin.bitOr a e.2.2))
    have he := h e List.mem_cons_self
    exact orD_in (fun x hx => h x (List.mem_cons_of_mem _ hx)) (or_in ha.1 ha.2 he.1 he.2)
theorem orD_has : ∀ {ts : Tr} {a : Int}, DgT ts → In8 a → has (orD ts a) 4 = (has a 4 || grants ts 4) ∧ has (orD ts a) 2 = (has a 2 || grants ts 2) ∧ has (orD ts a) 1 = (has a 1 || grants ts 1)
  | [], a, _, _ => by
    unfold grants orD
    simp
  | e :: r, a, h, ha => by
    have he := h e List.mem_cons_self
    obtain ⟨i1, i2, i3⟩ := orD_has (ts := r) (a := Builtin.bitOr a e.2.2) (fun x hx => h x (List.mem_cons_of_mem _ hx)) (or_in ha.1 ha.2 he.1 he.2)
    obtain ⟨x, ex⟩ := ha.fin
    obtain ⟨y, ey⟩ := he.fin
    obtain ⟨o1, o2, o3⟩ := or_fin x y
    rw [← ex, ← ey] at o1 o2 o3
    show has (orD r (Builtin.bitOr a e.2.2)) 4 = _ ∧ has (orD r (Builtin.bitOr a e.2.2)) 2 = _ ∧ has (orD r (Builtin.bitOr a e.2.2)) 1 = _
    rw [i1, i2, i3, o1, o2, o3]
    unfold grants has
    simp [Bool.or_assoc]
def sumG (ts : Tr) : Int := (if grants ts 4 = true then 4 else 0) + (if grants ts 2 = true then 2 else 0) + (if grants ts 1 = true then 1 else 0)
theorem orD_sum {ts : Tr} (h : DgT ts) : orD ts 0 = sumG ts := by
  have h0 : In8 0 := ⟨by decide, by decide⟩
  obtain ⟨k, ek⟩ := (orD_in h h0).fin
  have e := tot_fin k
  rw [← ek] at e
  obtain ⟨i1, i2, i3⟩ := orD_has h h0
  rw [← e]
  unfold tot sumG
  rw [i1, i2, i3, show has 0 4 = false by decide +kernel, show has 0 2 = false by decide +kernel, show has 0 1 = false by decide +kernel, Bool.false_or, Bool.false_or, Bool.false_or]
theorem and_in8 : ∀ a b : Fin 8, 0 ≤ Builtin.bitAnd (a.1 : Int) (b.1 : Int) ∧ Builtin.bitAnd (a.1 : Int) (b.1 : Int) ≤ 7 := by decide +kernel
theorem In8.and {x y : Int} (hx : In8 x) (hy : In8 y) : In8 (Builtin.bitAnd x y) := by
  obtain ⟨a, rfl⟩ := hx.fin
  obtain ⟨b, rfl⟩ := hy.fin
  exact and_in8 a b
theorem dd_in {m : Dm} (h : Dg m) (u : Str) : In8 (dd m u) := by
  unfold K26.dd
  cases e : dget m u with
  | none => exact ⟨by decide, by decide⟩
  | some d => exact h.ds _ (dget_mem e)
theorem mask_in {c : AcR} (ok : AccOk c) : In8 (maskI c) := by
  unfold maskI
  rcases ok.m with ⟨e, _⟩ | ⟨d, e, h⟩
  · rw [e]; exact ⟨by decide, by decide⟩
  · rw [e]; exact h
theorem case_dg {held : List Str} {c : AcR} {u ho bd : Str} (ok : AccOk c) : DgT (caseOf held c u ho bd) := by
  intro e he
  have hm := mask_in ok
  unfold caseOf caseM at he
  split at he
  · rw [List.mem_singleton.mp he]; exact ok.o
  · split at he
    · rename_i d e1
      rw [List.mem_singleton.mp he]
      exact In8.and (ok.u.ds _ (dget_mem e1)) hm
    · split at he
      · rw [List.mem_singleton.mp he]; exact ok.t
      · rcases List.mem_append.mp he with he | he
        · unfold groupOf at he
          split at he
          · rw [List.mem_singleton.mp he]; exact In8.and ok.g hm
          · simp at he
        · unfold namedOf at he
          obtain ⟨n, hn, rfl⟩ := List.mem_map.mp he
          exact In8.and (dd_in ok.s n) hm
/-! pairs of texts -/
abbrev Pr := List (Str × Str)
def pr2 (e : Str × Str × Int) : Str × Str := (e.1, e.2.1)
def PV (H : Hp) (v : V) (e : Str × Str) : Prop := ∃ t, v = .ref t ∧ H t = some (.tup [.str e.1, .str e.2])
theorem PV.keep {H H' : Hp} {v : V} {e : Str × Str} (h : PV H v e) (k : Keep [] H H') : PV H' v e := by
  obtain ⟨t, rfl, h⟩ := h
  exact ⟨t, rfl, k _ _ h (by simp)⟩
theorem PV.put {H : Hp} {D : Addr} {o o' : HO} {v : V} {e : Str × Str} (r : PV H v e) (h : H D = some o) (n : ∀ ys, o ≠ .tup ys) : PV (upd H D o') v e := by
  obtain ⟨q, rfl, hq⟩ := r
  exact ⟨q, rfl, by rw [upd_ne (ne_of hq h fun z => n _ z.symm)]; exact hq⟩
def PL (H : Hp) (l : Addr) (ps : Pr) : Prop := ∃ vs, H l = some (.lst vs) ∧ Paired (PV H) vs ps
theorem PL.keep {H H' : Hp} {l : Addr} {ps : Pr} (h : PL H l ps) (k : Keep [] H H') : PL H' l ps := by
  obtain ⟨vs, h, p⟩ := h
  exact ⟨vs, k _ _ h (by simp), Paired.mapP p fun _ _ r => r.keep k⟩
def prD (e : Str × Str) : PyData := .tuple [.str e.1, .str e.2]
def AscP (ps : Pr) : Prop := ∀ e ∈ ps, Asc e.1 ∧ Asc e.2
theorem lay_pr : ∀ {ps : Pr}, AscP ps → PyData.canLayAll0 (ps.map prD) = true
  | [], _ => rfl
  | e :: r, h => by
    obtain ⟨h1, h2⟩ := h e List.mem_cons_self
    rw [List.map_cons, PyData.canLayAll0, lay_pr fun x hx => h x (List.mem_cons_of_mem _ hx)]
    unfold prD
    rw [PyData.canLay0, PyData.canLayAll0, PyData.canLayAll0, PyData.canLayAll0, PyData.canLay0, PyData.canLay0, str_ok h1, str_ok h2]
    rfl
theorem depth_pr : ∀ ps : Pr, PyData.depthAll (ps.map prD) ≤ 1
  | [] => by decide
  | e :: r => by
    have ih := depth_pr r
    rw [List.map_cons, PyData.depthAll]
    have : PyData.depth (prD e) = 1 := by unfold prD; rfl
    rw [this]
    omega
theorem shaped_pr {ps : Pr} (h : AscP ps) : SeqAt.shaped (.list (ps.map prD)) = true := by
  unfold SeqAt.shaped
  rw [PyData.canLay0, lay_pr h, PyData.depth]
  have := depth_pr ps
  simp
  omega
theorem dp_pr {K : PySem.W.Frag} {H : Hp} {vs : List V} {ps : Pr} (h : Paired (PV H) vs ps) : DpAll K H vs (ps.map prD) := by
  induction h with
  | nil => exact .nil
  | cons r t ih =>
    obtain ⟨q, rfl, hq⟩ := r
    exact .cons (.tup (.inl (.inl hq)) (.cons (.str _) (.cons (.str _) .nil))) ih
theorem eqv_prnil (ps : Pr) : PyData.eqv (.list (ps.map prD)) (.list []) = decide (ps = []) := by
  cases ps with
  | nil => rfl
  | cons e r => rfl
theorem prD_eqv (e f : Str × Str) : PyData.eqv (prD e) (prD f) = decide (e = f) := by
  unfold prD
  show (decide (e.1 = f.1) && (decide (e.2 = f.2) && true)) = _
  rw [Bool.and_true, ← Bool.decide_and]
  exact decide_eq_decide.mpr ⟨fun ⟨a, b⟩ => Prod.ext a b, fun h => by rw [h]; exact ⟨rfl, rfl⟩⟩
theorem eqv_prs : ∀ ps qs : Pr, PyData.eqvAll (ps.map prD) (qs.map prD) = decide (ps = qs)
  | [], [] => rfl
  | [], _ :: _ => rfl
  | _ :: _, [] => rfl
  | e :: r, f :: s => by
    show (PyData.eqv (prD e) (prD f) && PyData.eqvAll (r.map prD) (s.map prD)) = _
    rw [prD_eqv, eqv_prs r s, ← Bool.decide_and]
    exact decide_eq_decide.mpr ⟨fun ⟨a, b⟩ => by rw [a, b], fun h => by cases h; exact ⟨rfl, rfl⟩⟩
theorem eqv_pl (ps qs : Pr) : PyData.eqv (.list (ps.map prD)) (.list (qs.map prD)) = decide (ps = qs) := eqv_prs ps qs
theorem any_pr (ps : Pr) (e : Str × Str) : ((ps.map prD).any fun z => PyData.eqv z (prD e)) = decide (e ∈ ps) := by
  induction ps with
  | nil => rfl
  | cons f r ih =>
    rw [List.map_cons, List.any_cons, prD_eqv, ih, ← Bool.decide_or]
    exact decide_eq_decide.mpr ⟨fun h => h.elim (fun h => by rw [h]; exact List.mem_cons_self) (fun h => List.mem_cons_of_mem _ h), fun h => (List.mem_cons.mp h).elim (fun h => .inl h.symm) .inr⟩
end K26
namespace K26
open PySem PySem.Spec PyProof.Rows L2 FR TL
open C8 (pss_cut pe_gc)
open StX (pe_callS2 pa_star)
section
variable {P : Program} {w : World} {K : PySem.W.Frag} {mg : Str → Option Value} {base : Heap} {A : Ads}
set_option pp.maxSteps 120
theorem ok_is_integer (T : Txt w K mg A) : FnOk P w K mg base CX0 1 A.f_is_integer A.d_is_integer ["value", "low", "high"] (fun vs H Q _ => ∃ i lo hi : Int, vs = [.int i, .int lo, .int hi] ∧ lo ≤ i ∧ i ≤ hi ∧ Q (.bl true) H) := by
  refine T.F_is_integer.ok sc_is_integer (fun vs H Q E h => ?_) (fun cdv A_ outer s H vs Q E hr h => ?_)
  · obtain ⟨i, lo, hi, rfl, _⟩ := h
    rfl
  · obtain ⟨i, lo, hi, rfl, h0, h1, q⟩ := h
    refine ⟨_, (pss_one (ps_ret (pe_and (pe_callB call_isi (by rfl) T.b_isinstance (by decide +kernel) (pa_cons (pv 0) (pa_cons (pe_bltn (v := .ty "int") rfl T.b_int (by decide +kernel) rfl) pa_nil))) (pe_and (pe_not (pe_callB call_isi (by rfl) T.b_isinstance (by decide +kernel) (pa_cons (pv 0) (pa_cons (pe_bltn (v := .ty "bool") rfl T.b_bool (by decide +kernel) rfl) pa_nil)))) (pe_one (pe_chain op_le op_le (pv 1) (pv 0) (pv 2))))))), ?_⟩
    walk_at "rd"
    refine ifT (decide_eq_true h0) ?_
    refine ⟨_, rfl, ?_⟩
    refine ⟨_, _, rfl, rfl, ?_⟩
    show Q (V.bl (decide (i ≤ hi))) H
    rw [decide_eq_true h1]
    exact q
theorem ok_Rights_from_digit (T : Txt w K mg A) : FnOk P w K mg base CX0 4 A.f_Rights_from_digit A.d_Rights_from_digit ["cls", "digit"] (fun vs H Q _ => ∃ d : Int, vs = [.ref A.C_Rights, .int d] ∧ 0 ≤ d ∧ d ≤ 7 ∧ NewR A d Q H) := by
  refine T.F_Rights_from_digit.ok sc_Rights_from_digit (fun vs H Q E h => ?_) (fun cdv A_ outer s H vs Q E hr h => ?_)
  · obtain ⟨d, rfl, _⟩ := h
    rfl
  · obtain ⟨d, rfl, d0, d1, q⟩ := h
    refine ⟨_, (pss_cons (ps_if (pt_not (pt_val (pe_call (ok_is_integer T) (hr.mono (by decide)) (by rfl) T.g_is_integer T.F_is_integer.kp T.B_is_integer .nil pass0 (pa_cons (pv 1) (pa_cons pe_int (pa_cons (pe_gc rfl T.c_ALL_DIGIT) pa_nil)))))) (pss_one ps_never) pss_nil)
  (pss_one (ps_ret (pe_makeL (pv 0) T.mk_Rights (ok_Rights___init__ T) (hr.mono (by decide)) (bd_Rights___init___1 T).2 (bd_Rights___init___1 T).1 pass0 (pa_cons (pe_ix ix_tup (pe_gc rfl T.c_WORDS) (pv 1) (fun _ _ => rfl)) pa_nil))))), ?_⟩
    walk_at "rd"
    refine ⟨d, 0, 7, rfl, d0, d1, ?_⟩
    refine ⟨_, rfl, ?_⟩
    refine ifF rfl ?_
    refine ⟨rfl, ?_⟩
    refine ⟨_, rfl, _, _, _, _, rfl, rfl, wd_sq T H, wd_at d0 d1, ?_⟩
    intro x dy hx hdy hne
    refine ⟨x, dy, _, _, rfl, upd_same, lw_good d0 d1, fun H2 k2 h2 => ⟨rfl, ?_⟩⟩
    exact q x dy H2 hx hdy (keep_of_new Keep.refl hx hdy k2) h2
def spEq (A : Ads) : Sp := fun vs H Q _ => ∃ v d v' d', vs = [v, v'] ∧ IsR A H v d ∧ IsR A H v' d' ∧ Q (.bl (decide (d = d'))) H
theorem ok_Rights___eq__ (T : Txt w K mg A) : FnOk P w K mg base CX0 1 A.f_Rights___eq__ A.d_Rights___eq__ ["self", "other"] (spEq A) := by
  refine T.F_Rights___eq__.ok sc_Rights___eq__ (fun vs H Q E h => ?_) (fun cdv A_ outer s H vs Q E hr h => ?_)
  · obtain ⟨v, d, v', d', rfl, _⟩ := h
    rfl
  · obtain ⟨_, d, v', d', rfl, ⟨a, dx, rfl, ha, d0, d1⟩, ⟨a', dx', rfl, ha', d0', d1'⟩, q⟩ := h
    refine ⟨_, (pss_one (ps_ret (pe_and (pe_callB (C8.call_isC T.in_Rights) (by rfl) T.b_isinstance (by decide +kernel) (pa_cons (pv 1) (pa_cons (pe_gc rfl T.c_Rights) pa_nil))) (pe_one (pe_cmpR op_eq (pe_fld (pv 0) rfl) (pe_fld (pv 1) rfl) (nomark _)))))), ?_⟩
    walk_at "rd"
    refine ⟨a', dx', _, rfl, ha', ?_⟩
    refine ⟨true, rfl, ?_⟩
    rw [if_pos rfl]
    refine ⟨_, rfl, a, _, dx, _, _, rfl, ha, T.cl_Rights, T.na_Rights__digit, rfl, _, rfl, a', _, dx', _, _, rfl, ha', T.cl_Rights, T.na_Rights__digit, rfl, ?_⟩
    refine ⟨rfl, ?_⟩
    rw [show decide (V.int d = V.int d') = decide (d = d') from by simp]
    exact q
def spLetters (A : Ads) : Sp := fun vs H Q _ => ∃ j p M gs al c u ho bd, vs = [.ref j, .str u, .str ho, .str bd, .ref al] ∧ Ask A H j p M gs al c u ho bd ∧ NewR A (sumG (caseOf (mget M u) c u ho bd)) Q H
theorem orD_snoc {ts : Tr} {i : Nat} {e : Str × Str × Int} (h : ts[i]? = some e) (a : Int) : orD (ts.take (i + 1)) a = Builtin.bitOr (orD (ts.take i) a) e.2.2 := by
  unfold orD
  rw [List.take_add_one, h, List.foldl_append]
  rfl
theorem ok_Judge_letters_of (T : Txt w K mg A) : FnOk P w K mg base CX0 6 A.f_Judge_letters_of A.d_Judge_letters_of ["self", "user", "owner", "group", "access"] (spLetters A) := by
  refine T.F_Judge_letters_of.ok sc_Judge_letters_of (fun vs H Q E h => ?_) (fun cdv A_ outer s_ H vs Q E hr h => ?_)
  · obtain ⟨j, p, M, gs, al, c, u, ho, bd, rfl, _⟩ := h
    rfl
  · obtain ⟨j, p, M, gs, al, c, u, ho, bd, rfl, a, q⟩ := h
    refine ⟨_, (pss_cons (ps_expr (pe_meth (pv 0) T.cl_Judge T.me_Judge__check (ok_Judge__check T) (hr.mono (by decide)) T.B_Judge__check .nil pass0 (pa_cons (pv 1) (pa_cons (pv 2) (pa_cons (pv 3) (pa_cons (pv 4) pa_nil))))))
  (pss_cons (ps_set (i := 5) sc_Judge_letters_of.nd rfl (.inl rfl) pe_int)
  (pss_cons (ps_for PassesOwn.never rfl (pi_tup (pe_call (ok_granting_digits T) (hr.mono (by decide)) (by rfl) T.g_granting_digits T.F_granting_digits.kp T.B_granting_digits .nil pass0 (pa_cons (pe_fld (pv 0) rfl) (pa_cons (pv 1) (pa_cons (pv 2) (pa_cons (pv 3) (pa_cons (pv 4) pa_nil))))))) (pg_name (i := 6) sc_Judge_letters_of.nd rfl (.inl rfl)) (pss_one (ps_set (i := 5) sc_Judge_letters_of.nd rfl (.inl rfl) (pe_op op_or (pv 5) (pv 6)))))
  (pss_one (ps_ret (ClX.pe_cmeth (pe_gc rfl T.c_Rights) T.cr_Rights T.cm_Rights_from_digit ((ok_Rights_from_digit T).raw T.B_Rights_from_digit .nil) (hr.mono (by decide)) pass0 (pa_cons (pv 5) pa_nil))))))), ?_⟩
    have dg := case_dg (held := mget M u) (u := u) (ho := ho) (bd := bd) a.ok
    obtain ⟨dj, hj⟩ := a.jo
    refine ⟨_, rfl, j, dj, _, rfl, hj, rfl, _, rfl, _, rfl, _, rfl, _, rfl, ?_⟩
    refine ⟨j, p, M, gs, al, c, u, ho, bd, rfl, a, fun H1 k1 => ?_⟩
    have a1 := a.keep k1
    refine ⟨_, rfl, j, _, dj, _, _, rfl, k1 _ _ hj (by simp), T.cl_Judge, T.na_Judge__people, rfl, ?_⟩
    refine ⟨_, rfl, _, rfl, _, rfl, _, rfl, j, p, M, gs, al, c, u, ho, bd, rfl, a1, NewO.mk fun t H2 n2 k2 h2 => ?_⟩
    rw [← orD_sum dg] at q
    generalize caseOf (mget M u) c u ho bd = ts at q h2 dg
    refine ⟨t, rfl, ⟨_, .inl (.inl h2)⟩, ?_⟩
    refine for_it (walk_tup (xs := ts.map fun e => V.int e.2.2)) (fun i σ H' => (∃ y6, σ = [some (.ref j), some (.str u), some (.str ho), some (.str bd), some (.ref al), some (.int (orD (ts.take i) 0)), y6]) ∧ H' = H2) ⟨⟨_, rfl⟩, rfl⟩ (fun i σ H' _ h => .inl (.inl (by rw [h.2]; exact h2))) ?_ ?_
    · rintro i v σ H3 H3' hi ⟨⟨y6, rfl⟩, rfl⟩ ⟨rfl, hx⟩
      rw [List.getElem?_map] at hx
      obtain ⟨e, he, rfl⟩ := Option.map_eq_some_iff.mp hx
      refine ⟨_, rfl, _, rfl, _, _, rfl, rfl, ?_⟩
      refine ⟨⟨some (.int e.2.2), ?_⟩, rfl⟩
      rw [orD_snoc he]
      rfl
    · rintro σ H3 ⟨⟨y6, rfl⟩, rfl⟩
      rw [List.length_map, List.take_length]
      have i8 := orD_in (a := 0) dg ⟨by decide, by decide⟩
      refine ⟨rfl, _, rfl, ?_⟩
      refine ⟨_, rfl, i8.1, i8.2, fun x dx H4 nx ndx k4 h4 => ?_⟩
      have k2' := k1.trans k2
      exact q x dx H4 (k2'.free nx) (k2'.free ndx) (k2'.trans k4) h4
end
end K26
namespace K26
open PySem PySem.Spec PyProof.Rows L2 FR TL
open C8 (pss_cut pe_gc)
open StX (pe_callS2 pa_star)
def sO (s : String) : Str := Str.ofString s
/-- one entry as it is told -/
def EV (H : Hp) (v : V) (e : Str × Str) : Prop := ∃ t x, v = .ref t ∧ H t = some (.tup [.str e.1, .str e.2, x])
theorem EV.keep {H H' : Hp} {v : V} {e : Str × Str} (h : EV H v e) (k : Keep [] H H') : EV H' v e := by
  obtain ⟨t, x, rfl, h⟩ := h
  exact ⟨t, x, rfl, k _ _ h (by simp)⟩
theorem EV.put {H : Hp} {D : Addr} {o o' : HO} {v : V} {e : Str × Str} (r : EV H v e) (h : H D = some o) (n : ∀ ys, o ≠ .tup ys) : EV (upd H D o') v e := by
  obtain ⟨q, x, rfl, hq⟩ := r
  exact ⟨q, x, rfl, by rw [upd_ne (ne_of hq h fun z => n _ z.symm)]; exact hq⟩
def EL (H : Hp) (l : Addr) (ps : Pr) : Prop := ∃ vs, H l = some (.lst vs) ∧ Paired (EV H) vs ps
theorem EL.keep {H H' : Hp} {l : Addr} {ps : Pr} (h : EL H l ps) (k : Keep [] H H') : EL H' l ps := by
  obtain ⟨vs, h, p⟩ := h
  exact ⟨vs, k _ _ h (by simp), Paired.mapP p fun _ _ r => r.keep k⟩
theorem EL.cat {H : Hp} {a b : Addr} {ps qs : Pr} {Q : VK} (ha : EL H a ps) (hb : EL H b qs) (l : ps.length + qs.length ≤ 1000) (q : ∀ p H', Keep [] H H' → H p = none → EL H' p (ps ++ qs) → Q (.ref p) H') : rCatN (.ref a) (.ref b) H Q := by
  obtain ⟨xs, h1, p1⟩ := ha
  obtain ⟨ys, h2, p2⟩ := hb
  have l1 := Paired.length p1
  have l2 := Paired.length p2
  refine ⟨a, b, xs, ys, rfl, rfl, h1, h2, size_le (by omega), NewO.mk fun p H' n k h => ?_⟩
  exact q p H' k n ⟨_, h, paired_app (Paired.mapP p1 fun _ _ r => r.keep k) (Paired.mapP p2 fun _ _ r => r.keep k)⟩
theorem one_EL {H1 H2 : Hp} {t l : Addr} {a b : Str} {x : V} (h1 : H1 t = some (.tup [.str a, .str b, x])) (k2 : Keep [] H1 H2) (h2 : H2 l = some (.lst [.ref t])) : EL H2 l [(a, b)] := ⟨_, h2, .cons ⟨t, x, rfl, k2 _ _ h1 (by simp)⟩ .nil⟩
noncomputable def namesE (k : String) (m : Dm) : Pr := (srt (m.map (·.1))).map fun n => (sO k, n)
def maskE (c : AcR) : Pr := match c.ma with | none => [] | some _ => [(sO "mask", sO "")]
noncomputable def entOf (c : AcR) : Pr := [(sO "owner", sO "")] ++ namesE "user" c.us ++ [(sO "group", sO "")] ++ namesE "named" c.gs ++ maskE c ++ [(sO "other", sO "")]
theorem sd_keys {m : Dm} : (sd m).map (·.1) = srt (m.map (·.1)) := by
  unfold sd
  rw [List.map_map]
  exact List.map_id _
theorem take_mapP {ts : List Str} {i : Nat} {e : Str} {α : Type} {f : Str → α} (h : ts[i]? = some e) : (ts.take (i + 1)).map f = (ts.take i).map f ++ [f e] := by
  rw [List.take_add_one, h, List.map_append]
  rfl
section
variable {P : Program} {w : World} {K : PySem.W.Frag} {mg : Str → Option Value} {base : Heap} {A : Ads}
set_option pp.maxSteps 400
def spEntries (A : Ads) : Sp := fun vs H Q _ => ∃ p c, vs = [.ref p] ∧ AL A H p c ∧ AccOk c ∧ (sd c.us).Perm c.us ∧ (sd c.gs).Perm c.gs ∧ ∀ l H', H l = none → Keep [] H H' → EL H' l (entOf c) → Q (.ref l) H'
theorem ok_AccessList_entries (T : Txt w K mg A) : FnOk P w K mg base CX0 1 A.f_AccessList_entries A.d_AccessList_entries ["self"] (spEntries A) := by
  refine T.F_AccessList_entries.ok sc_AccessList_entries (fun vs H Q E h => ?_) (fun cdv A_ outer s_ H vs Q E hr h => ?_)
  · obtain ⟨p, c, rfl, _⟩ := h
    rfl
  · obtain ⟨p, c, rfl, ⟨dx, o, g, t, mv, us, gs, ku, kg, hA⟩, ok, pu, pg, q⟩ := h
    refine ⟨_, (pss_cons (ps_set (i := 1) sc_AccessList_entries.nd rfl (.inl rfl) (pe_ifExp (pt_cmpR op_isN (pe_fld (pv 0) rfl) pe_non (nomark _)) (pe_lstS pa_nil) (pe_lstS (pa_cons (pe_tupN (pa_cons pe_str (pa_cons pe_str (pa_cons (pe_fld (pv 0) rfl) pa_nil)))) pa_nil))))
  (pss_one (ps_ret (pe_op op_catN (pe_op op_catN (pe_op op_catN (pe_op op_catN (pe_op op_catN (pe_lstS (pa_cons (pe_tupN (pa_cons pe_str (pa_cons pe_str (pa_cons (pe_fld (pv 0) rfl) pa_nil)))) pa_nil)) (pe_lc (own := [("name", 2)]) (g := gName 2) rfl sc_AccessList_entries.nd (pi_list (pe_callB (call_sortedD rfl) (by rfl) T.b_sorted (by decide +kernel) (pa_cons (pe_fld (pv 0) rfl) pa_nil))) (blkOk_by (own := [("name", 2)]) (N := N_AccessList_entries) (sc := defScope s_AccessList_entries) (by decide +kernel)) (fun _ _ _ _ _ => pg_name (i := 2) sc_AccessList_entries.nd rfl (Or.inl rfl)) (fun _ _ _ _ _ => pts_nil) (fun _ _ _ _ _ => (pe_tupN (pa_cons pe_str (pa_cons (pv 2) (pa_cons (pe_dget (hu_of hr) (pe_fldK (K := K) rfl (pv 0) (by rfl)) (pv 2) (fun _ _ => rfl)) pa_nil))))))) (pe_lstS (pa_cons (pe_tupN (pa_cons pe_str (pa_cons pe_str (pa_cons (pe_fld (pv 0) rfl) pa_nil)))) pa_nil))) (pe_lc (own := [("name", 2)]) (g := gName 2) rfl sc_AccessList_entries.nd (pi_list (pe_callB (call_sortedD rfl) (by rfl) T.b_sorted (by decide +kernel) (pa_cons (pe_fld (pv 0) rfl) pa_nil))) (blkOk_by (own := [("name", 2)]) (N := N_AccessList_entries) (sc := defScope s_AccessList_entries) (by decide +kernel)) (fun _ _ _ _ _ => pg_name (i := 2) sc_AccessList_entries.nd rfl (Or.inl rfl)) (fun _ _ _ _ _ => pts_nil) (fun _ _ _ _ _ => (pe_tupN (pa_cons pe_str (pa_cons (pv 2) (pa_cons (pe_dget (hu_of hr) (pe_fldK (K := K) rfl (pv 0) (by rfl)) (pv 2) (fun _ _ => rfl)) pa_nil))))))) (pv 1)) (pe_lstS (pa_cons (pe_tupN (pa_cons pe_str (pa_cons pe_str (pa_cons (pe_fld (pv 0) rfl) pa_nil)))) pa_nil)))))), ?_⟩
    have main : ∀ F : VK, (∀ lm H1, H lm = none → Keep [] H H1 → EL H1 lm (maskE c) → F (.ref lm) H1) → (tIf (tTest (tOp (fun x y H Q => y = V.non ∧ Q (V.bl (decide (x = V.non))) H) (tFld K (tVar 0) (Str.ofString "_mask")) (tC V.non))) (tLstS tNil) (tLstS (tCons (tTupN (tCons (tC (V.str (Str.ofString "mask"))) (tCons (tC (V.str (Str.ofString ""))) (tCons (tFld K (tVar 0) (Str.ofString "_mask")) tNil)))) tNil))) (L2.start N_AccessList_entries [V.ref p]) H F := fun F hF => by
      refine ⟨_, rfl, p, _, dx, _, _, rfl, hA.ob, T.cl_AccessList, T.na_AccessList__mask, rfl, rfl, _, rfl, ?_⟩
      rcases hA.hm with ⟨rfl, e⟩ | ⟨d, e, r⟩
      · refine ifT (decide_eq_true rfl) ?_
        refine ⟨Nat.zero_le _, NewS.mk fun l1 H1 n1 s1 k1 h1 => ?_⟩
        refine hF l1 H1 n1 k1 ⟨[], h1, ?_⟩
        unfold maskE
        rw [e]
        exact .nil
      · refine ifF (decide_eq_false fun z => by obtain ⟨_, _, e2, _⟩ := r; rw [e2] at z; cases z) ?_
        refine ⟨_, rfl, p, _, dx, _, _, rfl, hA.ob, T.cl_AccessList, T.na_AccessList__mask, rfl, ?_⟩
        refine ⟨(show 3 ≤ sizeLine by decide), NewO.mk fun t1 H1 n1 k1 h1 => ?_⟩
        refine ⟨(show 1 ≤ sizeLine by decide), NewS.mk fun l2 H2 n2 s2 k2 h2 => ?_⟩
        refine hF l2 H2 (k1.free n2) (k1.trans k2) ?_
        unfold maskE
        rw [e]
        exact one_EL h1 k2 h2
    refine main _ fun lm H1 nlm k1 em => ?_
    clear main
    have hA1 := hA.keep k1
    have l6s3 := ok.u.l6
    have l6s5 := ok.s.l6
    refine ⟨_, rfl, p, _, dx, _, _, rfl, hA1.ob, T.cl_AccessList, T.na_AccessList__owner, rfl, ?_⟩
    refine ⟨(show 3 ≤ sizeLine by decide), NewO.mk fun t2 Ht2 nt2 kt2 ht2 => ?_⟩
    refine ⟨(show 1 ≤ sizeLine by decide), NewS.mk fun l2 H2 nl2 sl2 kl2 hl2 => ?_⟩
    have e2 : EL H2 l2 [(sO "owner", sO "")] := one_EL ht2 kl2 hl2
    have k2 := kt2.trans kl2
    have hA2 := hA1.keep k2
    refine ⟨_, rfl, p, _, dx, _, _, rfl, hA2.ob, T.cl_AccessList, T.na_AccessList__users, rfl, us, ku, (sd c.us).map (·.1), rfl, .inl hA2.hu, hA2.du.keys, by rw [List.length_map, (pu).length_eq]; omega, fun yss3 lys3 pys3 sys3 ns3 => ?_⟩
    have eys3 : yss3 = srt (c.us.map (·.1)) := by
      rw [sd_keys] at pys3
      exact srt_eq (pys3.trans ((sd_keys (m := c.us)) ▸ (pu.map (·.1)))) sys3
    have lyss3 : yss3.length ≤ 6 := by
      rw [pys3.length_eq, List.length_map, (pu).length_eq]
      exact l6s3
    have ks3 := keep_new (o := .lst (yss3.map V.str)) ns3
    have hs3 : upd H2 lys3 (.lst (yss3.map V.str)) lys3 = some (.lst (yss3.map V.str)) := upd_same
    generalize upd H2 lys3 (.lst (yss3.map V.str)) = Hss3 at ks3 hs3 ⊢
    have hAss3 := hA2.keep ks3
    refine ⟨lys3, rfl, ⟨_, .inl (.inl hs3)⟩, fun D hD => ?_⟩
    refine lc_it (walk_list (xs := yss3.map V.str)) (fun i H' => Keep [] Hss3 H' ∧ EL H' D ((yss3.take i).map fun n => (sO "user", n))) ⟨keep_new hD, [], upd_same, .nil⟩ (fun i H' _ h => .inl (.inl (h.1 _ _ hs3 (by simp)))) (fun i v H5 H6 hi h5 y5 => ?_) (fun H5 h5 => ?_)
    · obtain ⟨rfl, hx⟩ := y5
      obtain ⟨k5, vs, h5, pv⟩ := h5
      rw [List.getElem?_map] at hx
      obtain ⟨n, hn, rfl⟩ := Option.map_eq_some_iff.mp hx
      have hA5 := hAss3.keep k5
      rcases hA5.du.val n with ⟨_, _, e3⟩ | ⟨v, d, e1', e2', hv, _⟩
      · exact absurd (pys3.mem_iff.mp (List.mem_of_getElem? hn)) e3
      refine ⟨rfl, ?_⟩
      refine ⟨_, rfl, _, rfl, p, _, dx, _, _, rfl, hA5.ob, T.cl_AccessList, T.na_AccessList__users, rfl, _, rfl, us, _, rfl, .inl ⟨ku, Sum.inr n, .inl hA5.hu, rfl, e1'.symm⟩, ?_⟩
      refine ⟨(show 3 ≤ sizeLine by decide), NewO.mk fun t7 H7 n7 k7 h7 => ?_⟩
      have hD7 := k7 _ _ h5 (by simp)
      have lvs : vs.length ≤ 6 := by
        rw [Paired.length pv, List.length_map]
        have := List.length_take_le' i yss3
        omega
      refine ⟨_, hD7, size_ok (by omega), keep_free (k5.trans k7) hD, vs ++ [.ref t7], upd_same, ?_⟩
      rw [take_mapP hn]
      exact paired_snoc (Paired.mapP pv fun _ _ r => EV.put (EV.keep r k7) hD7 (fun _ z => by cases z)) (EV.put ⟨t7, _, rfl, h7⟩ hD7 (fun _ z => by cases z))
    obtain ⟨kcs3, hcs3⟩ := h5
    rw [List.length_map, List.take_length, eys3] at hcs3
    change EL H5 D (namesE "user" c.us) at hcs3
    have kxs3 := ks3.trans kcs3
    have hAcs3 := hA2.keep kxs3
    clear hD
    refine EL.cat (e2.keep kxs3) hcs3 (by rw [List.length_singleton]; unfold namesE; rw [List.length_map, ← eys3]; omega) fun l3 H3 k3 nl3 el3 => ?_
    have hA3 := hAcs3.keep k3
    refine ⟨_, rfl, p, _, dx, _, _, rfl, hA3.ob, T.cl_AccessList, T.na_AccessList__group, rfl, ?_⟩
    refine ⟨(show 3 ≤ sizeLine by decide), NewO.mk fun t4 Ht4 nt4 kt4 ht4 => ?_⟩
    refine ⟨(show 1 ≤ sizeLine by decide), NewS.mk fun l4 H4 nl4 sl4 kl4 hl4 => ?_⟩
    have e4 : EL H4 l4 [(sO "group", sO "")] := one_EL ht4 kl4 hl4
    have k4 := kt4.trans kl4
    have hA4 := hA3.keep k4
    refine EL.cat (el3.keep k4) e4 (by rw [List.length_append, List.length_singleton, List.length_singleton]; unfold namesE; rw [List.length_map, ← eys3]; omega) fun l5 H5' k5' nl5 el5 => ?_
    have hA5' := hA4.keep k5'
    clear hcs3 el3 e2 e4
    refine ⟨_, rfl, p, _, dx, _, _, rfl, hA5'.ob, T.cl_AccessList, T.na_AccessList__groups, rfl, gs, kg, (sd c.gs).map (·.1), rfl, .inl hA5'.hs, hA5'.ds.keys, by rw [List.length_map, (pg).length_eq]; omega, fun yss5 lys5 pys5 sys5 ns5 => ?_⟩
    have eys5 : yss5 = srt (c.gs.map (·.1)) := by
      rw [sd_keys] at pys5
      exact srt_eq (pys5.trans ((sd_keys (m := c.gs)) ▸ (pg.map (·.1)))) sys5
    have lyss5 : yss5.length ≤ 6 := by
      rw [pys5.length_eq, List.length_map, (pg).length_eq]
      exact l6s5
    have ks5 := keep_new (o := .lst (yss5.map V.str)) ns5
    have hs5 : upd H5' lys5 (.lst (yss5.map V.str)) lys5 = some (.lst (yss5.map V.str)) := upd_same
    generalize upd H5' lys5 (.lst (yss5.map V.str)) = Hss5 at ks5 hs5 ⊢
    have hAss5 := hA5'.keep ks5
    refine ⟨lys5, rfl, ⟨_, .inl (.inl hs5)⟩, fun D hD => ?_⟩
    refine lc_it (walk_list (xs := yss5.map V.str)) (fun i H' => Keep [] Hss5 H' ∧ EL H' D ((yss5.take i).map fun n => (sO "named", n))) ⟨keep_new hD, [], upd_same, .nil⟩ (fun i H' _ h => .inl (.inl (h.1 _ _ hs5 (by simp)))) (fun i v H5 H6 hi h5 y5 => ?_) (fun H5 h5 => ?_)
    · obtain ⟨rfl, hx⟩ := y5
      obtain ⟨k5, vs, h5, pv⟩ := h5
      rw [List.getElem?_map] at hx
      obtain ⟨n, hn, rfl⟩ := Option.map_eq_some_iff.mp hx
      have hA5 := hAss5.keep k5
      rcases hA5.ds.val n with ⟨_, _, e3⟩ | ⟨v, d, e1', e2', hv, _⟩
      · exact absurd (pys5.mem_iff.mp (List.mem_of_getElem? hn)) e3
      refine ⟨rfl, ?_⟩
      refine ⟨_, rfl, _, rfl, p, _, dx, _, _, rfl, hA5.ob, T.cl_AccessList, T.na_AccessList__groups, rfl, _, rfl, gs, _, rfl, .inl ⟨kg, Sum.inr n, .inl hA5.hs, rfl, e1'.symm⟩, ?_⟩
      refine ⟨(show 3 ≤ sizeLine by decide), NewO.mk fun t7 H7 n7 k7 h7 => ?_⟩
      have hD7 := k7 _ _ h5 (by simp)
      have lvs : vs.length ≤ 6 := by
        rw [Paired.length pv, List.length_map]
        have := List.length_take_le' i yss5
        omega
      refine ⟨_, hD7, size_ok (by omega), keep_free (k5.trans k7) hD, vs ++ [.ref t7], upd_same, ?_⟩
      rw [take_mapP hn]
      exact paired_snoc (Paired.mapP pv fun _ _ r => EV.put (EV.keep r k7) hD7 (fun _ z => by cases z)) (EV.put ⟨t7, _, rfl, h7⟩ hD7 (fun _ z => by cases z))
    obtain ⟨kcs5, hcs5⟩ := h5
    rw [List.length_map, List.take_length, eys5] at hcs5
    change EL H5 D (namesE "named" c.gs) at hcs5
    have kxs5 := ks5.trans kcs5
    have hAcs5 := hA5'.keep kxs5
    clear hD
    refine EL.cat (el5.keep kxs5) hcs5 (by rw [List.length_append, List.length_append, List.length_singleton, List.length_singleton]; unfold namesE; rw [List.length_map, List.length_map, ← eys3, ← eys5]; omega) fun l6 H6 k6 nl6 el6 => ?_
    have K6 : Keep [] H1 H6 := (((((k2.trans kxs3).trans k3).trans k4).trans k5').trans kxs5).trans k6
    refine ⟨_, rfl, ?_⟩
    have lm1 : (maskE c).length ≤ 1 := by
      unfold maskE
      split <;> simp
    refine EL.cat el6 (em.keep K6) (by rw [List.length_append, List.length_append, List.length_append, List.length_singleton, List.length_singleton]; unfold namesE; rw [List.length_map, List.length_map, ← eys3, ← eys5]; omega) fun l7 H7 k7 nl7 el7 => ?_
    have hA7 := (hAcs5.keep k6).keep k7
    refine ⟨_, rfl, p, _, dx, _, _, rfl, hA7.ob, T.cl_AccessList, T.na_AccessList__other, rfl, ?_⟩
    refine ⟨(show 3 ≤ sizeLine by decide), NewO.mk fun t8 Ht8 nt8 kt8 ht8 => ?_⟩
    refine ⟨(show 1 ≤ sizeLine by decide), NewS.mk fun l8 H8 nl8 sl8 kl8 hl8 => ?_⟩
    have e8 : EL H8 l8 [(sO "other", sO "")] := one_EL ht8 kl8 hl8
    have k8 := kt8.trans kl8
    have hA8 := hA7.keep k8
    refine EL.cat (el7.keep k8) e8 (by rw [List.length_append, List.length_append, List.length_append, List.length_append, List.length_singleton, List.length_singleton, List.length_singleton]; unfold namesE; rw [List.length_map, List.length_map, ← eys3, ← eys5]; omega) fun l9 H9 k9 nl9 el9 => ?_
    have KA : Keep [] H H9 := (((k1.trans K6).trans k7).trans k8).trans k9
    exact q l9 H9 ((((k1.trans K6).trans k7).trans k8).free nl9) KA el9
end
end K26
namespace K26
open PySem PySem.Spec PyProof.Rows L2 FR TL
open C8 (pss_cut pe_gc)
open StX (pe_callS2 pa_star)
def fitD (ts : Tr) (d : Int) : Tr := ts.filter fun e => decide (Builtin.bitAnd e.2.2 d = d)
def dueOf (ts : Tr) (d : Int) : Pr := if fitD ts d = [] then ts.map pr2 else (fitD ts d).map pr2
theorem fit_nil (ts : Tr) (d : Int) : (!decide (fitD ts d = [])) = grants ts d := by
  unfold fitD grants
  induction ts with
  | nil => rfl
  | cons e r ih =>
    rw [List.any_cons, List.filter_cons]
    by_cases h : Builtin.bitAnd e.2.2 d = d
    · simp [h]
    · rw [if_neg (by simpa using h)]
      simpa [h] using ih
section
variable {P : Program} {w : World} {K : PySem.W.Frag} {mg : Str → Option Value} {base : Heap} {A : Ads}
set_option pp.maxSteps 200
def spDecide (A : Ads) : Sp := fun vs H Q _ => ∃ j p M gs al c u ho bd lv d, vs = [.ref j, .str u, .str ho, .str bd, .ref al, lv] ∧ Ask A H j p M gs al c u ho bd ∧ Part A H lv d ∧
  ∀ t l H', H t = none → H l = none → Keep [] H H' → H' t = some (.tup [.bl (grants (caseOf (mget M u) c u ho bd) d), .ref l]) → PL H' l (dueOf (caseOf (mget M u) c u ho bd) d) → Q (.ref t) H'
theorem ok_Judge_deciding (T : Txt w K mg A) : FnOk P w K mg base CX0 5 A.f_Judge_deciding A.d_Judge_deciding ["self", "user", "owner", "group", "access", "letters"] (spDecide A) := by
  refine T.F_Judge_deciding.ok sc_Judge_deciding (fun vs H Q E h => ?_) (fun cdv A_ outer s_ H vs Q E hr h => ?_)
  · obtain ⟨j, p, M, gs, al, c, u, ho, bd, lv, d, rfl, _⟩ := h
    rfl
  · obtain ⟨j, p, M, gs, al, c, u, ho, bd, lv, d, rfl, a, hl, q⟩ := h
    refine ⟨_, (pss_cons (ps_expr (pe_meth (pv 0) T.cl_Judge T.me_Judge__check (ok_Judge__check T) (hr.mono (by decide)) T.B_Judge__check .nil pass0 (pa_cons (pv 1) (pa_cons (pv 2) (pa_cons (pv 3) (pa_cons (pv 4) pa_nil))))))
  (pss_cons (ps_set (i := 6) sc_Judge_deciding.nd rfl (.inr rfl) (pe_call (ok_as_digit T) (hr.mono (by decide)) (by rfl) T.g_as_digit T.F_as_digit.kp T.B_as_digit .nil pass0 (pa_cons (pv 5) pa_nil)))
  (pss_cons (ps_set (i := 7) sc_Judge_deciding.nd rfl (.inl rfl) (pe_call (ok__fitting T) (hr.mono (by decide)) (by rfl) T.g__fitting T.F__fitting.kp T.B__fitting .nil pass0 (pa_cons (pe_fld (pv 0) rfl) (pa_cons (pv 1) (pa_cons (pv 2) (pa_cons (pv 3) (pa_cons (pv 4) pa_nil)))))))
  (pss_cons (ps_setLc (i := 8) (own := [("kind", 9), ("name", 10), ("digit", 11)]) (g := gTup K 3 (gCons (gName 9) (gCons (gName 10) (gCons (gName 11) gNil)))) rfl sc_Judge_deciding.nd rfl rfl (sw_true rfl rfl rfl (by decide +kernel)) (pi_list (pv 7)) (blkOk_by (own := [("kind", 9), ("name", 10), ("digit", 11)]) (N := N_Judge_deciding) (sc := defScope s_Judge_deciding) (by decide +kernel)) (fun _ _ _ _ _ => (pg_tup rfl (pgs_cons (pg_name (i := 9) sc_Judge_deciding.nd rfl (.inl rfl)) (pgs_cons (pg_name (i := 10) sc_Judge_deciding.nd rfl (.inl rfl)) (pgs_cons (pg_name (i := 11) sc_Judge_deciding.nd rfl (.inl rfl)) pgs_nil))))) (fun _ _ _ _ _ => (pts_one (pt_cmpR op_eq (pe_op op_and (pv 11) (pv 6)) (pv 6) (nomark _)))) (fun _ _ _ _ _ => (pe_tupN (pa_cons (pv 9) (pa_cons (pv 10) pa_nil)))))
  (pss_cons (ps_if (pt_truth (pv 8) (by intro _; rfl)) (pss_one (ps_ret (pe_tupN (pa_cons pe_bl (pa_cons (pv 8) pa_nil))))) pss_nil)
  (pss_one (ps_ret (pe_tupN (pa_cons pe_bl (pa_cons (pe_lc (own := [("kind", 9), ("name", 10), ("digit", 11)]) (g := gTup K 3 (gCons (gName 9) (gCons (gName 10) (gCons (gName 11) gNil)))) rfl sc_Judge_deciding.nd (pi_list (pv 7)) (blkOk_by (own := [("kind", 9), ("name", 10), ("digit", 11)]) (N := N_Judge_deciding) (sc := defScope s_Judge_deciding) (by decide +kernel)) (fun _ _ _ _ _ => (pg_tup rfl (pgs_cons (pg_name (i := 9) sc_Judge_deciding.nd rfl (.inl rfl)) (pgs_cons (pg_name (i := 10) sc_Judge_deciding.nd rfl (.inl rfl)) (pgs_cons (pg_name (i := 11) sc_Judge_deciding.nd rfl (.inl rfl)) pgs_nil))))) (fun _ _ _ _ _ => pts_nil) (fun _ _ _ _ _ => (pe_tupN (pa_cons (pv 9) (pa_cons (pv 10) pa_nil))))) pa_nil)))))))))), ?_⟩
    have l7 := case_len (held := mget M u) (u := u) (ho := ho) (bd := bd) a.pg a.ok.s.l6
    obtain ⟨dj, hj⟩ := a.jo
    refine ⟨_, rfl, j, dj, _, rfl, hj, rfl, _, rfl, _, rfl, _, rfl, _, rfl, ?_⟩
    refine ⟨j, p, M, gs, al, c, u, ho, bd, rfl, a, fun H1 k1 => ?_⟩
    refine ⟨_, rfl, _, d, rfl, hl.keep k1, ?_⟩
    have a1 := a.keep k1
    refine ⟨_, rfl, j, _, dj, _, _, rfl, k1 _ _ hj (by simp), T.cl_Judge, T.na_Judge__people, rfl, ?_⟩
    refine ⟨_, rfl, _, rfl, _, rfl, _, rfl, j, p, M, gs, al, c, u, ho, bd, rfl, a1, fun fl H2 nfl k2 tl2 => ?_⟩
    obtain ⟨vs, h2, pv⟩ := tl2
    have lv' := Paired.length pv
    rw [← fit_nil] at q
    generalize caseOf (mget M u) c u ho bd = ts at q l7 pv lv'
    have K2 := k1.trans k2
    refine ⟨_, rfl, fl, rfl, ⟨_, .inl (.inl h2)⟩, fun D hD => ?_⟩
    refine lc_it (walk_list (xs := vs)) (fun i H' => Keep [] H2 H' ∧ PL H' D (((ts.take i).filter fun e => decide (Builtin.bitAnd e.2.2 d = d)).map pr2)) ⟨keep_new hD, [], upd_same, .nil⟩ (fun i H' _ h => .inl (.inl (h.1 _ _ h2 (by simp)))) (fun i x H3 H4 hi h3 y => ?_) (fun H3 h3 => ?_)
    · obtain ⟨rfl, hx⟩ := y
      obtain ⟨k3, ws, hD3, pw⟩ := h3
      obtain ⟨e, he, t, rfl, ht⟩ := tl_get pv hx
      refine ⟨t, _, rfl, .inl (.inl (k3 _ _ ht (by simp))), rfl, ?_⟩
      walk_at "rd"
      show if decide (V.int (Builtin.bitAnd e.2.2 d) = V.int d) = true then _ else _
      rw [show decide (V.int (Builtin.bitAnd e.2.2 d) = V.int d) = decide (Builtin.bitAnd e.2.2 d = d) by simp]
      refine ifB (fun c => ?_) (fun c => ?_)
      · refine ⟨_, rfl, _, rfl, (show 2 ≤ sizeLine by decide), NewO.mk fun t7 H7 n7 k7 h7 => ?_⟩
        have hD7 := k7 _ _ hD3 (by simp)
        have lws : ws.length ≤ 7 := by
          rw [Paired.length pw, List.length_map]
          have h1 := List.length_filter_le (fun e => decide (Builtin.bitAnd e.2.2 d = d)) (ts.take i)
          have h2 := List.length_take_le' i ts
          omega
        refine ⟨_, hD7, size_ok (by omega), keep_free (k3.trans k7) hD, ws ++ [.ref t7], upd_same, ?_⟩
        rw [filt_snocT he, if_pos c, List.map_append]
        exact paired_snoc (Paired.mapP pw fun _ _ r => PV.put (PV.keep r k7) hD7 (fun _ z => by cases z)) (PV.put ⟨t7, rfl, h7⟩ hD7 (fun _ z => by cases z))
      · refine ⟨k3, ws, hD3, ?_⟩
        rw [filt_snocT he, if_neg (by rw [c]; exact Bool.false_ne_true), List.append_nil]
        exact pw
    · obtain ⟨k3, ws, hD3, pw⟩ := h3
      rw [lv', List.take_length] at pw
      change Paired (PV H3) ws ((fitD ts d).map pr2) at pw
      have K3 := K2.trans k3
      have nD : H D = none := K2.free hD
      refine ⟨_, rfl, !ws.isEmpty, .inl ⟨ws, .inl (.inl hD3), rfl⟩, ?_⟩
      have we : (!ws.isEmpty) = !decide (fitD ts d = []) := by
        have h := Paired.length pw
        rw [List.length_map] at h
        cases hf : fitD ts d with
        | nil =>
          rw [hf] at h
          rw [List.length_eq_zero_iff.mp h]
          rfl
        | cons e r =>
          rw [hf] at h
          cases ws with
          | nil => cases h
          | cons _ _ => rfl
      rw [we]
      refine ifN (fun e => ?_) (fun e => ?_)
      · refine ⟨_, rfl, (show 2 ≤ sizeLine by decide), NewO.mk fun t8 H8 n8 k8 h8 => ?_⟩
        have e1 : (!decide (fitD ts d = [])) = true := by simp [e]
        have e2 : dueOf ts d = (fitD ts d).map pr2 := if_neg e
        rw [e1, e2] at q
        exact q t8 D H8 (K3.free n8) nD (K3.trans k8) h8 (PL.keep ⟨ws, hD3, pw⟩ k8)
      · have e1 : (!decide (fitD ts d = [])) = false := by simp [e]
        have e2 : dueOf ts d = ts.map pr2 := if_pos e
        rw [e1, e2] at q
        have h3' := k3 _ _ h2 (by simp)
        refine ⟨_, rfl, fl, rfl, ⟨_, .inl (.inl h3')⟩, fun D2 hD2 => ?_⟩
        refine lc_it (walk_list (xs := vs)) (fun i H' => Keep [] H3 H' ∧ PL H' D2 ((ts.take i).map pr2)) ⟨keep_new hD2, [], upd_same, .nil⟩ (fun i H' _ h => .inl (.inl (h.1 _ _ h3' (by simp)))) (fun i x H4 H5 hi h4 y => ?_) (fun H4 h4 => ?_)
        · obtain ⟨rfl, hx⟩ := y
          obtain ⟨k4, us, hD4, pu⟩ := h4
          obtain ⟨e, he, t, rfl, ht⟩ := tl_get pv hx
          refine ⟨t, _, rfl, .inl (.inl ((k3.trans k4) _ _ ht (by simp))), rfl, ?_⟩
          walk_at "rd"
          refine ⟨(show 2 ≤ sizeLine by decide), NewO.mk fun t7 H7 n7 k7 h7 => ?_⟩
          have hD7 := k7 _ _ hD4 (by simp)
          have lus : us.length ≤ 7 := by
            rw [Paired.length pu, List.length_map]
            have h2 := List.length_take_le' i ts
            omega
          refine ⟨_, hD7, size_ok (by omega), keep_free (k4.trans k7) hD2, us ++ [.ref t7], upd_same, ?_⟩
          rw [take_map_snoc he]
          exact paired_snoc (Paired.mapP pu fun _ _ r => PV.put (PV.keep r k7) hD7 (fun _ z => by cases z)) (PV.put ⟨t7, rfl, h7⟩ hD7 (fun _ z => by cases z))
        · obtain ⟨k4, us, hD4, pu⟩ := h4
          rw [lv', List.take_length] at pu
          refine ⟨(show 2 ≤ sizeLine by decide), NewO.mk fun t8 H8 n8 k8 h8 => ?_⟩
          have K4 := K3.trans k4
          exact q t8 D2 H8 (K4.free n8) (K3.free hD2) (K4.trans k8) h8 (PL.keep ⟨us, hD4, pu⟩ k8)
end
end K26
namespace K26
open PySem PySem.Spec PyProof.Rows L2 FR TL
open C8 (pss_cut pe_gc)
open StX (pe_callS2 pa_star)
theorem CaseIn.keep {H H' : Hp} {a s : Addr} {es : Es} {c : AcR} {u : Str} (h : CaseIn H a s es c u) (k : Keep [] H H') : CaseIn H' a s es c u :=
  ⟨h.1.keep k, h.2.1, h.2.2.1.keep k, h.2.2.2⟩
theorem ki_bl_bool2 {K : PySem.W.Frag} : PySem.W.kitOne K (.type "bool") (.type "bool") = some true := by rfl
theorem paired_mem {α β : Type} {R : α → β → Prop} {xs : List α} {ys : List β} (h : Paired R xs ys) {x : α} (hx : x ∈ xs) : ∃ y ∈ ys, R x y := by
  induction h with
  | nil => simp at hx
  | cons r _ ih =>
    rcases List.mem_cons.mp hx with rfl | h
    · exact ⟨_, List.mem_cons_self, r⟩
    · obtain ⟨y, hy, r⟩ := ih h
      exact ⟨y, List.mem_cons_of_mem _ hy, r⟩
theorem dEs_mem {es : Es} {e : Addr × Str × List Str} (h : e ∈ es) : (Sum.inr e.2.1, V.ref e.1) ∈ dEs es := by
  unfold dEs
  exact List.mem_map.mpr ⟨e, h, rfl⟩
theorem valV_ref {es : Es} {k : L2.Key} {v : V} (h : valV (dEs es) k = some v) : ∃ e ∈ es, v = .ref e.1 := by
  induction es with
  | nil => cases h
  | cons e r ih =>
    unfold dEs at h
    rw [List.map_cons] at h
    by_cases c : (Sum.inr e.2.1 : L2.Key) = k
    · rw [valV_pos (p := (Sum.inr e.2.1, V.ref e.1)) c] at h
      exact ⟨e, List.mem_cons_self, (Option.some.inj h).symm⟩
    · rw [valV_neg (p := (Sum.inr e.2.1, V.ref e.1)) c] at h
      obtain ⟨x, hx, r⟩ := ih h
      exact ⟨x, List.mem_cons_of_mem _ hx, r⟩
theorem ALx.frz {A : Ads} {H : Hp} {p dx : Addr} {c : AcR} {o g t mv : V} {u s : Addr} {ku ks : List (L2.Key × V)} {a : Addr} {es : Es} {od : Obj} (h : ALx A H p dx c o g t mv u s ku ks) (ml : ML H a es) (ne : es ≠ []) :
    ALx A (upd H a (.frz od (.dK (dEs es)))) p dx c o g t mv u s ku ks := by
  have ir : ∀ {x d}, IsR A H x d → IsR A (upd H a (.frz od (.dK (dEs es)))) x d := fun r => IsR.put r ml.hd (fun _ _ _ z => by cases z)
  obtain ⟨e0, he0⟩ := List.exists_mem_of_ne_nil _ ne
  have no : ∀ {q kq m}, H q = some (.dK kq) → DV (IsR A H) kq m → q ≠ a := fun {q kq m} hq dv e => by
    subst e
    rw [ml.hd] at hq
    obtain rfl : dEs es = kq := HO.dK.inj (Option.some.inj hq)
    obtain ⟨y, _, _, b, dx, e1, e2, _⟩ := paired_mem dv (dEs_mem he0)
    have := ml.hl e0 he0
    obtain rfl : e0.1 = b := V.ref.inj e1
    rw [this] at e2
    cases e2
  exact ⟨by rw [upd_ne (ne_of h.ob ml.hd (fun z => by cases z))]; exact h.ob, ir h.ho, ir h.hg, ir h.ht, by rw [upd_ne (no h.hu h.du)]; exact h.hu, by rw [upd_ne (no h.hs h.ds)]; exact h.hs, h.du.imp fun _ _ r => ir r, h.ds.imp fun _ _ r => ir r, h.hm.imp id fun ⟨d, e, r⟩ => ⟨d, e, ir r⟩⟩
theorem SD.frz {H : Hp} {s : Addr} {c : AcR} {a : Addr} {es : Es} {od : Obj} (h : SD H s c) (ml : ML H a es) (ne : es ≠ []) : SD (upd H a (.frz od (.dK (dEs es)))) s c := by
  obtain ⟨kvs, u, g, ku, kg, h⟩ := h
  obtain ⟨e0, he0⟩ := List.exists_mem_of_ne_nil _ ne
  have no : ∀ {q kq m}, H q = some (.dK kq) → DV RI kq m → q ≠ a := fun {q kq m} hq dv e => by
    subst e
    rw [ml.hd] at hq
    obtain rfl : dEs es = kq := HO.dK.inj (Option.some.inj hq)
    obtain ⟨y, _, _, e1⟩ := paired_mem dv (dEs_mem he0)
    cases e1
  have ns : s ≠ a := fun e => by
    have h1 := h.hs
    rw [e, ml.hd] at h1
    obtain rfl : dEs es = kvs := HO.dK.inj (Option.some.inj h1)
    obtain ⟨e, _, h2⟩ := valV_ref h.vo
    cases h2
  exact ⟨kvs, u, g, ku, kg, by rw [upd_ne ns]; exact h.hs, h.vm, h.vo, h.vg, h.vt, h.vu, h.vs, by rw [upd_ne (no h.hu h.du)]; exact h.hu, by rw [upd_ne (no h.hg h.dg)]; exact h.hg, h.du, h.dg, h.ek⟩
theorem Pp.frz {C : Addr} {H : Hp} {p : Addr} {M : Mp} {gs : List Str} {a : Addr} {es : Es} {od : Obj} (h : Pp C H p M gs) (ml : ML H a es) (ne : es ≠ []) : Pp C (upd H a (.frz od (.dK (dEs es)))) p M gs := by
  obtain ⟨d, g, dx, kvs, h⟩ := h
  obtain ⟨e0, he0⟩ := List.exists_mem_of_ne_nil _ ne
  have nd : d ≠ a := fun e => by
    have h1 := h.hd
    rw [e, ml.hd] at h1
    obtain rfl : dEs es = kvs := HO.dK.inj (Option.some.inj h1)
    obtain ⟨y, _, _, b, e1, e2⟩ := paired_mem h.dm (dEs_mem he0)
    have := ml.hl e0 he0
    obtain rfl : e0.1 = b := V.ref.inj e1
    rw [this] at e2
    cases e2
  exact ⟨d, g, dx, kvs, by rw [upd_ne (ne_of h.ob ml.hd (fun z => by cases z))]; exact h.ob, by rw [upd_ne nd]; exact h.hd, h.dm.imp fun _ _ r => RT.put r ml.hd (fun _ z => by cases z), by rw [upd_ne (ne_of h.hg ml.hd (fun z => by cases z))]; exact h.hg, h.gd, h.gm, h.gl⟩
theorem ML.frz {H : Hp} {a : Addr} {es : Es} {od : Obj} (ml : ML H a es) : MR (upd H a (.frz od (.dK (dEs es)))) a es :=
  ⟨.inr ⟨od, upd_same⟩, fun e he => by rw [upd_ne (ne_of (ml.hl e he) ml.hd (fun z => by cases z))]; exact ml.hl e he⟩
/-- a judge of the members -/
def JP (A : Ads) (H : Hp) (j : Addr) (es : Es) : Prop := ∃ dj p, H j = some (JO A dj p) ∧ Pp A.C_People H p (sm (mEs es)) (gsOf (mEs es)) ∧ (sm (mEs es)).Perm (mEs es)
end K26
namespace K26
open PySem PySem.Spec PyProof.Rows L2 FR TL
open C8 (pss_cut pe_gc)
open StX (pe_callS2 pa_star)
/-- an object that none of the held things is: a list, but of no names -/
def Lx (o : HO) : Prop := ∃ xs, o = .lst xs ∧ ∀ ys : List Str, ys ≠ [] → xs ≠ ys.map V.str
theorem lx_bag (x y z : Int) : Lx (bagO x y z) := ⟨_, rfl, fun ys ne e => by
  cases ys with
  | nil => exact ne rfl
  | cons a r => cases e⟩
theorem lx_ref (vs : List V) (h : ∀ v ∈ vs, ∃ t, v = .ref t) : Lx (.lst vs) := ⟨vs, rfl, fun ys ne e => by
  cases ys with
  | nil => exact ne rfl
  | cons a r =>
    obtain ⟨t, ht⟩ := h (.str a) (by rw [e]; exact List.mem_cons_self)
    cases ht⟩
def LM2 (M : List Addr) (H : Hp) : Prop := ∀ a ∈ M, ∃ o, H a = some o ∧ Lx o
theorem LM2.tup {M : List Addr} {H H' : Hp} (h : LM2 M H) (k : Keep M H H') {p : Addr} {o : HO} (hp : H p = some o) (no : ¬ Lx o) : H' p = some o := k _ _ hp fun hm => by
  obtain ⟨o', h1, h2⟩ := h p hm
  rw [hp] at h1
  obtain rfl : o = o' := Option.some.inj h1
  exact no h2
theorem nlx_ins {C dx : Addr} {fs : List (Str × V)} : ¬ Lx (.ins C dx fs) := fun ⟨_, e, _⟩ => by cases e
theorem nlx_dK {kvs : List (L2.Key × V)} : ¬ Lx (.dK kvs) := fun ⟨_, e, _⟩ => by cases e
theorem nlx_tup {xs : List V} : ¬ Lx (.tup xs) := fun ⟨_, e, _⟩ => by cases e
theorem nlx_strs {ys : List Str} (h : ys ≠ []) : ¬ Lx (.lst (ys.map V.str)) := fun ⟨xs, e, f⟩ => by
  obtain rfl : ys.map V.str = xs := HO.lst.inj e
  exact f ys h rfl
theorem gs_ne {C : Addr} {H : Hp} {p : Addr} {M : Mp} {gs : List Str} {d g dx : Addr} {kvs : List (L2.Key × V)} (h : Ppl C H p M gs d g dx kvs) : gs ≠ [] := fun e => by
  obtain ⟨x, hx⟩ := List.exists_mem_of_length_pos (Nat.lt_of_lt_of_le Nat.zero_lt_one h.gd.l1)
  obtain ⟨g', hg'⟩ := List.exists_mem_of_length_pos (Nat.lt_of_lt_of_le Nat.zero_lt_one (h.gd.gs x hx).2.2.1)
  have := (h.gm g').mpr ⟨x, hx, hg'⟩
  rw [e] at this
  cases this
theorem Pp.keepM {C : Addr} {H H' : Hp} {p : Addr} {M : Mp} {gs : List Str} {L : List Addr} (h : Pp C H p M gs) (l : LM2 L H) (k : Keep L H H') : Pp C H' p M gs := by
  obtain ⟨d, g, dx, kvs, h⟩ := h
  exact ⟨d, g, dx, kvs, l.tup k h.ob nlx_ins, l.tup k h.hd nlx_dK, h.dm.imp fun _ _ ⟨q, e, r⟩ => ⟨q, e, l.tup k r nlx_tup⟩, l.tup k h.hg (nlx_strs (gs_ne h)), h.gd, h.gm, h.gl⟩
theorem ML.keepM {H H' : Hp} {a : Addr} {es : Es} {L : List Addr} (h : ML H a es) (gd : Mk (mEs es)) (l : LM2 L H) (k : Keep L H H') : ML H' a es :=
  ⟨l.tup k h.hd nlx_dK, fun e he => l.tup k (h.hl e he) (nlx_strs fun z => by
    have := (gd.gs e.2 (List.mem_map_of_mem he)).2.2.1
    rw [z] at this
    cases this)⟩
theorem SD.keepM {H H' : Hp} {s : Addr} {c : AcR} {L : List Addr} (h : SD H s c) (l : LM2 L H) (k : Keep L H H') : SD H' s c := by
  obtain ⟨kvs, u, g, ku, kg, h⟩ := h
  exact ⟨kvs, u, g, ku, kg, l.tup k h.hs nlx_dK, h.vm, h.vo, h.vg, h.vt, h.vu, h.vs, l.tup k h.hu nlx_dK, l.tup k h.hg nlx_dK, h.du, h.dg, h.ek⟩
theorem JP.keepM {A : Ads} {H H' : Hp} {j : Addr} {es : Es} {L : List Addr} (h : JP A H j es) (l : LM2 L H) (k : Keep L H H') : JP A H' j es := by
  obtain ⟨dj, p, hj, pp, pm⟩ := h
  exact ⟨dj, p, l.tup k hj nlx_ins, pp.keepM l k, pm⟩
theorem Keep.fresh {M : List Addr} {H0 Hi Hj : Hp} (k0 : Keep [] H0 Hi) (k : Keep M Hi Hj) (f : ∀ x ∈ M, H0 x = none) : Keep [] H0 Hj := fun x o ho _ => k x o (k0 x o ho (by simp)) fun hm => by rw [f x hm] at ho; cases ho
theorem cnt_in (L : Int) : (0 : Int) ≤ (if (if L < 5 then L else 5) > 2 then (if L < 5 then L else 5) else 2) ∧ (if (if L < 5 then L else 5) > 2 then (if L < 5 then L else 5) else 2) ≤ 5 := by
  split <;> split <;> constructor <;> omega
theorem lm0 {H : Hp} : LM2 [] H := fun a ha => by cases ha
theorem IsR.keepM {A : Ads} {H H' : Hp} {v : V} {d : Int} {L : List Addr} (h : IsR A H v d) (l : LM2 L H) (k : Keep L H H') : IsR A H' v d := by
  obtain ⟨a, dx, e, h, b⟩ := h
  exact ⟨a, dx, e, l.tup k h nlx_ins, b⟩
theorem AL.keepM {A : Ads} {H H' : Hp} {p : Addr} {c : AcR} {L : List Addr} (h : AL A H p c) (l : LM2 L H) (k : Keep L H H') : AL A H' p c := by
  obtain ⟨dx, o, g, t, mv, u, s, ku, ks, h⟩ := h
  exact ⟨dx, o, g, t, mv, u, s, ku, ks, ⟨l.tup k h.ob nlx_ins, h.ho.keepM l k, h.hg.keepM l k, h.ht.keepM l k, l.tup k h.hu nlx_dK, l.tup k h.hs nlx_dK, h.du.imp fun _ _ r => r.keepM l k, h.ds.imp fun _ _ r => r.keepM l k, h.hm.imp id fun ⟨d, e, r⟩ => ⟨d, e, r.keepM l k⟩⟩⟩
theorem ALf.frz {A : Ads} {H : Hp} {p : Addr} {c : AcR} {a : Addr} {es : Es} {od : Obj} (h : AL A H p c) (ml : ML H a es) (ne : es ≠ []) : AL A (upd H a (.frz od (.dK (dEs es)))) p c := by
  obtain ⟨dx, o, g, t, mv, u, s, ku, ks, h⟩ := h
  exact ⟨dx, o, g, t, mv, u, s, ku, ks, h.frz ml ne⟩

/-! the order of the entries -/
theorem filt_sub {s l : Pr} (h : s.Sublist l) (nd : l.Nodup) : (l.filter fun x => decide (x ∈ s)) = s := by
  induction h with
  | slnil => rfl
  | @cons s l a h ih =>
    obtain ⟨n1, n2⟩ := List.nodup_cons.mp nd
    rw [List.filter_cons, if_neg (by simpa using fun hm => n1 (h.subset hm)), ih n2]
  | @cons_cons s l a h ih =>
    obtain ⟨n1, n2⟩ := List.nodup_cons.mp nd
    rw [List.filter_cons, if_pos (by simp)]
    congr 1
    rw [← ih n2]
    refine List.filter_congr fun x hx => ?_
    have e : x ≠ a := fun e => n1 (e ▸ hx)
    rw [ih n2]
    simp [e]
theorem names_kind {k : String} {m : Dm} {x : Str × Str} (h : x ∈ namesE k m) : x.1 = sO k := by
  unfold namesE at h
  obtain ⟨n, _, rfl⟩ := List.mem_map.mp h
  rfl
theorem mask_kind {c : AcR} {x : Str × Str} (h : x ∈ maskE c) : x.1 = sO "mask" := by
  unfold maskE at h
  split at h
  · cases h
  · rw [List.mem_singleton.mp h]
theorem names_nodup {k : String} {m : Dm} (g : Dg m) (p : (sd m).Perm m) : (namesE k m).Nodup := by
  unfold namesE
  have h : (srt (m.map (·.1))).Nodup := by
    rw [← sd_keys]
    exact (p.map _).nodup_iff.mpr g.nd
  exact List.Pairwise.map _ (fun a b n e => n (Prod.mk.inj e).2) h
theorem ent_nodup {c : AcR} (ok : AccOk c) (pu : (sd c.us).Perm c.us) (pg : (sd c.gs).Perm c.gs) : (entOf c).Nodup := by
  unfold entOf
  have one : ∀ a : Str × Str, [a].Nodup := fun a => by simp
  have mk : (maskE c).Nodup := by
    unfold maskE
    split <;> simp
  refine List.nodup_append.mpr ⟨List.nodup_append.mpr ⟨List.nodup_append.mpr ⟨List.nodup_append.mpr ⟨List.nodup_append.mpr ⟨one _, names_nodup ok.u pu, ?_⟩, one _, ?_⟩, names_nodup ok.s pg, ?_⟩, mk, ?_⟩, one _, ?_⟩
  all_goals
    intro x hx y hy e
    subst e
    simp only [List.mem_append, List.mem_singleton] at hx hy
  · have h2 := names_kind hy
    rw [hx] at h2
    exact absurd h2 (by decide +kernel)
  · rcases hx with rfl | hx
    · exact absurd (congrArg Prod.fst hy) (by decide +kernel)
    · have h2 := names_kind hx
      rw [hy] at h2
      exact absurd h2 (by decide +kernel)
  · have h2 := names_kind hy
    rcases hx with (rfl | hx) | rfl
    · exact absurd h2 (by decide +kernel)
    · exact absurd (h2.symm.trans (names_kind hx)) (by decide +kernel)
    · exact absurd h2 (by decide +kernel)
  · have h2 := mask_kind hy
    rcases hx with ((rfl | hx) | rfl) | hx
    · exact absurd h2 (by decide +kernel)
    · exact absurd (h2.symm.trans (names_kind hx)) (by decide +kernel)
    · exact absurd h2 (by decide +kernel)
    · exact absurd (h2.symm.trans (names_kind hx)) (by decide +kernel)
  · have h2 : x.1 = sO "other" := congrArg Prod.fst hy
    rcases hx with (((rfl | hx) | rfl) | hx) | hx
    · exact absurd h2 (by decide +kernel)
    · exact absurd (h2.symm.trans (names_kind hx)) (by decide +kernel)
    · exact absurd h2 (by decide +kernel)
    · exact absurd (h2.symm.trans (names_kind hx)) (by decide +kernel)
    · exact absurd (h2.symm.trans (mask_kind hx)) (by decide +kernel)
theorem case_sub {held : List Str} {c : AcR} {u ho bd : Str} (pu : (sd c.us).Perm c.us) : ((caseOf held c u ho bd).map pr2).Sublist (entOf c) := by
  unfold entOf caseOf caseM
  split
  · exact (((((List.sublist_append_left _ _).trans (List.sublist_append_left _ _)).trans (List.sublist_append_left _ _)).trans (List.sublist_append_left _ _)).trans (List.sublist_append_left _ _) : [(sO "owner", sO "")].Sublist _)
  · split
    · rename_i d e1
      have hm : u ∈ srt (c.us.map (·.1)) := by
        rw [← sd_keys]
        exact (pu.map _).mem_iff.mpr (List.mem_map_of_mem (dget_mem e1))
      have h1 : [(sO "user", u)].Sublist (namesE "user" c.us) := List.singleton_sublist.mpr (List.mem_map.mpr ⟨u, hm, rfl⟩)
      exact (((((h1.trans (List.sublist_append_right _ _)).trans (List.sublist_append_left _ _)).trans (List.sublist_append_left _ _)).trans (List.sublist_append_left _ _)).trans (List.sublist_append_left _ _) : [(sO "user", u)].Sublist _)
    · split
      · exact (List.sublist_append_right _ _ : [(sO "other", sO "")].Sublist _)
      · rw [List.map_append]
        have g1 : ((groupOf held c (maskI c) bd).map pr2).Sublist [(sO "group", sO "")] := by
          unfold groupOf
          split
          · exact List.Sublist.refl _
          · exact List.nil_sublist _
        have n1 : ((namedOf held c (maskI c)).map pr2).Sublist (namesE "named" c.gs) := by
          unfold namedOf namesE
          rw [List.map_map]
          exact List.filter_sublist.map _
        have h1 := g1.append n1
        refine h1.trans ?_
        refine List.Sublist.trans ?_ ((List.sublist_append_left _ _).trans (List.sublist_append_left _ _))
        rw [List.append_assoc _ [(sO "group", sO "")]]
        exact List.sublist_append_right _ _
theorem due_sub {held : List Str} {c : AcR} {u ho bd : Str} (pu : (sd c.us).Perm c.us) (d : Int) : (dueOf (caseOf held c u ho bd) d).Sublist (entOf c) := by
  unfold dueOf
  split
  · exact case_sub pu
  · exact (List.filter_sublist.map pr2).trans (case_sub pu)
theorem due_order {held : List Str} {c : AcR} {u ho bd : Str} (ok : AccOk c) (pu : (sd c.us).Perm c.us) (pg : (sd c.gs).Perm c.gs) (d : Int) : ((entOf c).filter fun x => decide (x ∈ dueOf (caseOf held c u ho bd) d)) = dueOf (caseOf held c u ho bd) d :=
  filt_sub (due_sub pu d) (ent_nodup ok pu pg)
theorem nlx_frz {od : Obj} {o : HO} : ¬ Lx (.frz od o) := fun ⟨_, e, _⟩ => by cases e
theorem MR.keepM {H H' : Hp} {a : Addr} {es : Es} {L : List Addr} (h : MR H a es) (gd : Mk (mEs es)) (l : LM2 L H) (k : Keep L H H') : MR H' a es := by
  refine ⟨?_, fun e he => l.tup k (h.hl e he) (nlx_strs fun z => by
    have := (gd.gs e.2 (List.mem_map_of_mem he)).2.2.1
    rw [z] at this
    cases this)⟩
  rcases h.hd with h | ⟨o, h⟩
  · exact .inl (l.tup k h nlx_dK)
  · exact .inr ⟨o, l.tup k h nlx_frz⟩
theorem CaseIn.keepM {H H' : Hp} {a s : Addr} {es : Es} {c : AcR} {u : Str} {L : List Addr} (h : CaseIn H a s es c u) (l : LM2 L H) (k : Keep L H H') : CaseIn H' a s es c u :=
  ⟨h.1.keepM h.2.1 l k, h.2.1, h.2.2.1.keepM l k, h.2.2.2⟩
theorem Ask.keepM {A : Ads} {H H' : Hp} {j p : Addr} {M : Mp} {gs : List Str} {al : Addr} {c : AcR} {u ho bd : Str} {L : List Addr} (h : Ask A H j p M gs al c u ho bd) (l : LM2 L H) (k : Keep L H H') : Ask A H' j p M gs al c u ho bd := by
  obtain ⟨dj, hj⟩ := h.jo
  exact ⟨⟨dj, l.tup k hj nlx_ins⟩, h.pp.keepM l k, h.al.keepM l k, h.u, h.h, h.b, h.pu, h.pg, h.ok⟩
end K26
namespace K26
open PySem PySem.Spec PyProof.Rows L2 FR TL
open C8 (pss_cut pe_gc)
open StX (pe_callS2 pa_star)
theorem and_swap (x y : Int) : Builtin.bitAnd x y = Builtin.bitAnd y x := by
  unfold Builtin.bitAnd
  cases decide (0 ≤ x) <;> cases decide (0 ≤ y) <;> simp [Nat.and_comm, Nat.or_comm]
theorem TL.keepM {H H' : Hp} {l b : Addr} {ts : Tr} {x y z : Int} (h : TL H l ts) (n : l ≠ b) (hb : H b = some (bagO x y z)) (k : Keep [b] H H') : TL H' l ts := by
  obtain ⟨vs, h, p⟩ := h
  exact ⟨vs, k _ _ h (by simpa using n), Paired.mapP p fun _ _ ⟨t, e, ht⟩ => ⟨t, e, k _ _ ht (by simpa using ne_of ht hb (fun z => by cases z))⟩⟩
theorem rev_good {d : Int} (d0 : 0 ≤ d) (d1 : d ≤ 7) : (revT (lw d), d) ∈ goodT := eight (F := fun d => (revT (lw d), d) ∈ goodT) (by decide +kernel) d0 d1
theorem pr_get {α : Type} {R : V → α → Prop} {vs : List V} {ts : List α} (h : Paired R vs ts) {i : Nat} {v : V} (hv : vs[i]? = some v) : ∃ e, ts[i]? = some e ∧ R v e := by
  induction h generalizing i with
  | nil => simp at hv
  | @cons x e a b r t ih =>
    cases i with
    | zero =>
      obtain rfl : x = v := by simpa using hv
      exact ⟨e, rfl, r⟩
    | succ i => exact ih (by simpa using hv)
theorem filt_snocP {ts : Pr} {i : Nat} {e : Str × Str} {p : Str × Str → Bool} (h : ts[i]? = some e) : (ts.take (i + 1)).filter p = (ts.take i).filter p ++ if p e = true then [e] else [] := by
  rw [List.take_add_one, h, List.filter_append]
  show _ ++ List.filter p [e] = _
  rw [List.filter_cons, List.filter_nil]
theorem ent_asc {c : AcR} (ok : AccOk c) (pu : (sd c.us).Perm c.us) (pg : (sd c.gs).Perm c.gs) : AscP (entOf c) := fun e he => by
  have nm : ∀ {k : String} {m : Dm}, Dg m → (sd m).Perm m → Asc (sO k) → e ∈ namesE k m → Asc e.1 ∧ Asc e.2 := fun {k m} g p a h => by
    unfold namesE at h
    obtain ⟨n, hn, rfl⟩ := List.mem_map.mp h
    rw [← sd_keys] at hn
    obtain ⟨x, hx, rfl⟩ := List.mem_map.mp hn
    exact ⟨a, (g.us x (p.mem_iff.mp hx)).1.asc⟩
  have em : Asc (sO "") := (show Asc (Str.ofString "") from Asc.of (by decide +kernel))
  unfold entOf at he
  simp only [List.mem_append, List.mem_singleton] at he
  rcases he with ((((rfl | h) | rfl) | h) | h) | rfl
  · exact ⟨(show Asc (Str.ofString "owner") from Asc.of (by decide +kernel)), em⟩
  · exact nm ok.u pu (show Asc (Str.ofString "user") from Asc.of (by decide +kernel)) h
  · exact ⟨(show Asc (Str.ofString "group") from Asc.of (by decide +kernel)), em⟩
  · exact nm ok.s pg (show Asc (Str.ofString "named") from Asc.of (by decide +kernel)) h
  · unfold maskE at h
    split at h
    · cases h
    · rw [List.mem_singleton.mp h]
      exact ⟨(show Asc (Str.ofString "mask") from Asc.of (by decide +kernel)), em⟩
  · exact ⟨(show Asc (Str.ofString "other") from Asc.of (by decide +kernel)), em⟩
theorem lay_one {e : Str × Str} (h : Asc e.1 ∧ Asc e.2) : SeqAt.shaped (prD e) = true := by
  unfold SeqAt.shaped prD
  rw [PyData.canLay0, PyData.canLayAll0, PyData.canLayAll0, PyData.canLayAll0, PyData.canLay0, PyData.canLay0, str_ok h.1, str_ok h.2]
  rfl
theorem ent_len {c : AcR} (ok : AccOk c) (pu : (sd c.us).Perm c.us) (pg : (sd c.gs).Perm c.gs) : (entOf c).length ≤ 16 := by
  have nm : ∀ {k : String} {m : Dm}, Dg m → (sd m).Perm m → (namesE k m).length ≤ 6 := fun {k m} g p => by
    unfold namesE
    rw [List.length_map, ← sd_keys, List.length_map, p.length_eq]
    exact g.l6
  have h1 := nm (k := "user") ok.u pu
  have h2 := nm (k := "named") ok.s pg
  have h3 : (maskE c).length ≤ 1 := by
    unfold maskE
    split <;> simp
  unfold entOf
  simp only [List.length_append, List.length_singleton]
  omega
theorem sum_filt (g : Int → Bool) : (if g 4 = true then (4 : Int) else 0) + (if g 2 = true then 2 else 0) + (if g 1 = true then 1 else 0) = (([(4 : Int), 2, 1].filter g).sum) := by
  cases h4 : g 4 <;> cases h2 : g 2 <;> cases h1 : g 1 <;> simp [List.filter, h4, h2, h1]
def expD (b : Bool) (ps : Pr) : PyData := .tuple [.bool b, .list (ps.map prD)]
theorem shaped_exp {b : Bool} {ps : Pr} (h : AscP ps) : SeqAt.shaped (expD b ps) = true := by
  unfold SeqAt.shaped expD
  rw [PyData.canLay0, PyData.canLayAll0, PyData.canLayAll0, PyData.canLay0, PyData.canLay0, lay_pr h, PyData.depth, PyData.depthAll, PyData.depthAll, PyData.depth, PyData.depth]
  have := depth_pr ps
  simp [PyData.depthAll, PyData.canLayAll0]
  omega
theorem eqv_exp (b : Bool) (ps : Pr) : PyData.eqv (expD b ps) (expD b ps) = true := by
  show ((PyData.eqv (.bool b) (.bool b)) && (PyData.eqv (.list (ps.map prD)) (.list (ps.map prD)) && true)) = true
  rw [eqv_pl, decide_eq_true rfl]
  cases b <;> rfl
section
variable {P : Program} {w : World} {K : PySem.W.Frag} {mg : Str → Option Value} {base : Heap} {A : Ads}
set_option pp.maxSteps 300
def spRight (A : Ads) : Sp := fun vs H Q _ => ∃ b j a es s c ho bd n x y z, vs = [.ref b, .ref j, .ref a, .str ho, .str bd, .ref s] ∧ H b = some (bagO x y z) ∧ BagOk n x y z ∧ n < 700000 ∧ JP A H j es ∧ ML H a es ∧ Mk (mEs es) ∧ SD H s c ∧ AccOk c ∧ (ho = root ∨ ho ∈ (mEs es).map (·.1)) ∧ (bd = root ∨ bd ∈ gsOf (mEs es)) ∧
  ∀ x' y' z' H', BagOk (n + 60) x' y' z' → Keep [b] H H' → H' b = some (bagO x' y' z') → Q (.bl true) H'
theorem ok_right (T : Txt w K mg A) : FnOk P w K mg base CX0 12 A.f_right A.d_right ["_law_bag_here", "_law_judge", "_law_members_here", "_law_owner", "_law_group", "_law_some"] (spRight A) := by
  refine T.F_right.ok sc_right (fun vs H Q E h => ?_) (fun cdv A_ outer s_ H vs Q E hr h => ?_)
  · obtain ⟨b, j, a, es, s, c, ho, bd, n, x, y, z, rfl, _⟩ := h
    rfl
  · obtain ⟨b, j, a, es, s, c, ho, bd, n, x, y, z, rfl, hb, bok, hn, ⟨dj, p, hj, pp, pm⟩, ml, gd, sd0, ok, hho, hbd, q⟩ := h
    refine ⟨_, (pss_cons (ps_set (i := 6) sc_right.nd rfl (.inl rfl) (pe_call (ok_made T) (hr.mono (by decide)) (by rfl) T.g_made T.F_made.kp T.B_made .nil pass0 (pa_cons (pv 5) pa_nil)))
  (pss_cons (ps_lock (ps_for PassesOwn.never rfl (pi_keys (pv 2)) (pg_name (i := 7) sc_right.nd rfl (.inr rfl)) (pss_cons (ps_set (i := 8) sc_right.nd rfl (.inl rfl) (pe_call (ok_case T) (hr.mono (by decide)) (by rfl) T.g_case T.F_case.kp T.B_case .nil pass0 (pa_cons (pv 2) (pa_cons (pv 7) (pa_cons (pv 3) (pa_cons (pv 4) (pa_cons (pv 5) pa_nil)))))))
  (pss_cons (ps_set (i := 9) sc_right.nd rfl (.inl rfl) (pe_meth (pv 1) T.cl_Judge T.me_Judge_letters_of (ok_Judge_letters_of T) (hr.mono (by decide)) T.B_Judge_letters_of .nil pass0 (pa_cons (pv 7) (pa_cons (pv 3) (pa_cons (pv 4) (pa_cons (pv 6) pa_nil))))))
  (pss_cons (ps_for PassesOwn.never rfl (pi_range1 (by rfl) T.b_range (pa_cons pe_int pa_nil)) (pg_name (i := 10) sc_right.nd rfl (.inr rfl)) (pss_cons (ps_setLc (i := 11) (own := [("_law_one", 19)]) (g := gName 19) rfl sc_right.nd rfl rfl (sw_true rfl rfl rfl (by decide +kernel)) (pi_list (pv 8)) (blkOk_by (own := [("_law_one", 19)]) (N := N_right) (sc := defScope s_right) (by decide +kernel)) (fun _ _ _ _ _ => pg_name (i := 19) sc_right.nd rfl (Or.inl rfl)) (fun _ _ _ _ _ => (pts_one (pt_cmpR op_eq (pe_op op_and (pv 10) (pe_ix (ix_tupK (K := K) rfl) (pv 19) pe_int (fun _ _ => rfl))) (pv 10) (nomark _)))) (fun _ _ _ _ _ => (pe_slice sl_tupK (pv 19) po_none (po_some pe_int))))
  (pss_cons (ps_set (i := 12) sc_right.nd rfl (.inl rfl) (pe_tupN (pa_cons (pe_cmpR (op_neD hr.units) (pv 11) (pe_lstS pa_nil) (nomark _)) (pa_cons (pe_ifExp (pt_cmpR (op_neD hr.units) (pv 11) (pe_lstS pa_nil) (nomark _)) (pv 11) (pe_lc (own := [("_law_one", 19)]) (g := gName 19) rfl sc_right.nd (pi_list (pv 8)) (blkOk_by (own := [("_law_one", 19)]) (N := N_right) (sc := defScope s_right) (by decide +kernel)) (fun _ _ _ _ _ => pg_name (i := 19) sc_right.nd rfl (Or.inl rfl)) (fun _ _ _ _ _ => pts_nil) (fun _ _ _ _ _ => (pe_slice sl_tupK (pv 19) po_none (po_some pe_int))))) pa_nil))))
  (pss_cons (ps_set (i := 13) sc_right.nd rfl (.inl rfl) (pe_call (ok_text T) (hr.mono (by decide)) (by rfl) T.g_text T.F_text.kp T.B_text .nil pass0 (pa_cons (pv 10) pa_nil)))
  (pss_cons (ps_set (i := 14) sc_right.nd rfl (.inl rfl) (pe_ix ix_list (pe_lstS (pa_cons (pv 13) (pa_cons (pe_revS (pv 13)) (pa_cons (pe_make T.mk_Rights (ok_Rights___init__ T) (hr.mono (by decide)) (by rfl) T.gC_Rights (bd_Rights___init___1 T).2 (bd_Rights___init___1 T).1 pass0 (pa_cons (pv 13) pa_nil)) pa_nil)))) (pe_call (ok_take T) (hr.mono (by decide)) (by rfl) T.g_take T.F_take.kp T.B_take .nil pass0 (pa_cons (pv 0) (pa_cons pe_int pa_nil))) (fun _ _ => rfl)))
  (pss_cons (ps_set (i := 15) sc_right.nd rfl (.inr rfl) (pe_meth (pv 1) T.cl_Judge T.me_Judge_deciding (ok_Judge_deciding T) (hr.mono (by decide)) T.B_Judge_deciding .nil pass0 (pa_cons (pv 7) (pa_cons (pv 3) (pa_cons (pv 4) (pa_cons (pv 6) (pa_cons (pv 14) pa_nil)))))))
  (pss_cons (ps_if (PW.pt (pw_or (pt_cmpR (op_neD hr.units) (pv 15) (pv 12) (nomark _)) (pw_or (pt_not (pt_val (pe_callB call_isi (by rfl) T.b_isinstance (by decide +kernel) (pa_cons (pv 15) (pa_cons (pe_bltn (v := .ty "tuple") rfl T.b_tuple (by decide +kernel) rfl) pa_nil))))) (pw_or1 (pt_not (pt_val (pe_callB call_isi (by rfl) T.b_isinstance (by decide +kernel) (pa_cons (pe_ix ix_tup (pv 15) pe_int (fun _ _ => rfl)) (pa_cons (pe_bltn (v := .ty "bool") rfl T.b_bool (by decide +kernel) rfl) pa_nil))))))))) (pss_one (ps_ret pe_bl)) pss_nil)
  (pss_cons (ps_if (pt_cmpR (op_neD hr.units) (pe_inst (pv 1) (CallsBy.mk T.me_Judge___call__.at_ T.me_Judge___call__.fn (fn_of T.F_Judge___call__)) (ok_Judge___call__ T) (hr.mono (by decide)) T.B_Judge___call__ .nil pass0 (pa_cons (pv 7) (pa_cons (pv 3) (pa_cons (pv 4) (pa_cons (pv 6) (pa_cons (pv 13) pa_nil)))))) (pe_ix ix_tup (pv 15) pe_int (fun _ _ => rfl)) (nomark _)) (pss_one (ps_ret pe_bl)) pss_nil)
  (pss_cons (ps_setLc (i := 16) (own := [("_law_entry", 20)]) (g := gName 20) rfl sc_right.nd rfl rfl (sw_true rfl rfl rfl (by decide +kernel)) (pi_list (pe_meth0 (pv 6) T.cl_AccessList T.me_AccessList_entries (ok_AccessList_entries T) (hr.mono (by decide)) T.B_AccessList_entries .nil pass0)) (blkOk_by (own := [("_law_entry", 20)]) (N := N_right) (sc := defScope s_right) (by decide +kernel)) (fun _ _ _ _ _ => pg_name (i := 20) sc_right.nd rfl (Or.inl rfl)) (fun _ _ _ _ _ => (pts_one (pt_cmpR (op_inDK (K := K) rfl (u65 hr)) (pe_slice sl_tupK (pv 20) po_none (po_some pe_int)) (pe_ix (ix_tupK (K := K) rfl) (pv 15) pe_int (fun _ _ => rfl)) rfl))) (fun _ _ _ _ _ => (pe_slice sl_tupK (pv 20) po_none (po_some pe_int))))
  (pss_cons (ps_if (pt_cmpR (op_neD hr.units) (pv 16) (pe_ix ix_tup (pv 15) pe_int (fun _ _ => rfl)) (nomark _)) (pss_one (ps_ret pe_bl)) pss_nil)
  (pss_cons (ps_expr (pe_bm PySem.F.plainAttrs_list PySem.F.slot_list_append PySem.F.type_list_append mt_appN (pe_ix ix_tup (pv 15) pe_int (fun _ _ => rfl)) (pa_cons pe_str pa_nil)))
  (pss_one (ps_if (pt_cmpR (op_neD hr.units) (pe_meth (pv 1) T.cl_Judge T.me_Judge_deciding (ok_Judge_deciding T) (hr.mono (by decide)) T.B_Judge_deciding .nil pass0 (pa_cons (pv 7) (pa_cons (pv 3) (pa_cons (pv 4) (pa_cons (pv 6) (pa_cons (pv 14) pa_nil)))))) (pv 12) (nomark _)) (pss_one (ps_ret pe_bl)) pss_nil)))))))))))))
  (pss_cons (ps_setLc (i := 17) (own := [("_law_digit", 10)]) (g := gName 10) rfl sc_right.nd rfl rfl (sw_true rfl rfl rfl (by decide +kernel)) (pi_list (pe_lstS (pa_cons pe_int (pa_cons pe_int (pa_cons pe_int pa_nil))))) (blkOk_by (own := [("_law_digit", 10)]) (N := N_right) (sc := defScope s_right) (by decide +kernel)) (fun _ _ _ _ _ => pg_name (i := 10) sc_right.nd rfl (Or.inl rfl)) (fun _ _ _ _ _ => (pts_one (pt_val (pe_call (ok_granted T) (hr.mono (by decide)) (by rfl) T.g_granted T.F_granted.kp T.B_granted .nil pass0 (pa_cons (pv 2) (pa_cons (pv 7) (pa_cons (pv 3) (pa_cons (pv 4) (pa_cons (pv 5) (pa_cons (pv 10) pa_nil)))))))))) (fun _ _ _ _ _ => (pv 10)))
  (pss_cons (ps_set (i := 18) sc_right.nd rfl (.inl rfl) (pe_meth (pv 1) T.cl_Judge T.me_Judge_letters_of (ok_Judge_letters_of T) (hr.mono (by decide)) T.B_Judge_letters_of .nil pass0 (pa_cons (pv 7) (pa_cons (pv 3) (pa_cons (pv 4) (pa_cons (pv 6) pa_nil))))))
  (pss_one (ps_if (PW.pt (pw_or (pt_not (pt_val (pe_callB (C8.call_isC T.in_Rights) (by rfl) T.b_isinstance (by decide +kernel) (pa_cons (pv 18) (pa_cons (pe_gc rfl T.c_Rights) pa_nil))))) (pw_or (pt_cmpR op_ne (pe_prop (pv 18) T.cl_Rights T.pr_Rights_digit (ok_Rights_digit T) (hr.mono (by decide)) T.B_Rights_digit .nil pass0 rfl) (pe_callB (cr_sum rfl) (by rfl) T.b_sum (by decide +kernel) (pa_cons (pv 17) pa_nil)) (nomark _)) (pw_or1 (pt_cmpR (op_neI T.in_Rights.hm T.ne_Rights T.me_Rights___eq__.at_ T.me_Rights___eq__.fn ((ok_Rights___eq__ T).raw T.B_Rights___eq__ .nil) (hr.mono (by decide)) pass0) (pv 9) (pv 18) (nomark _)))))) (pss_one (ps_ret pe_bl)) pss_nil)))))))))
  (pss_one (ps_ret pe_bl)))), ?_⟩
    refine ⟨_, rfl, s, c, rfl, sd0, ok, fun l H1 nl k1 al p1 p2 => ?_⟩
    have hj1 := k1 _ _ hj (by simp)
    have pp1 := pp.keep k1
    have ml1 := ML.keep ml k1
    have sd1 := sd0.keep k1
    have hb1 := k1 _ _ hb (by simp)
    have nab : a ≠ b := ne_of ml1.hd hb1 (fun z => by cases z)
    refine ⟨a, _, ml1.hd, trivial, fun od => ?_⟩
    refine ⟨_, rfl, a, od, rfl, .inl ⟨_, upd_same, ?_⟩⟩
    have ne : es ≠ [] := fun e => by
      have := gd.l1
      rw [e] at this
      simp [mEs] at this
    have gl6 := gd.l6
    have ask0 : ∀ u, u ∈ (mEs es).map (·.1) → Ask A (upd H1 a (.frz od (.dK (dEs es)))) j p (sm (mEs es)) (gsOf (mEs es)) l c u ho bd := fun u hu =>
      ⟨⟨dj, by rw [upd_ne (ne_of hj1 ml1.hd (fun z => by cases z))]; exact hj1⟩, pp1.frz ml1 ne, ALf.frz al ml1 ne, (pm.map _).mem_iff.mpr hu, hho.imp id (pm.map _).mem_iff.mpr, hbd, p1, p2, ok⟩
    have case0 : ∀ u, u ∈ (mEs es).map (·.1) → CaseIn (upd H1 a (.frz od (.dK (dEs es)))) a s es c u := fun u hu => ⟨ml1.frz, gd, sd1.frz ml1 ne, ok, hu, p2⟩
    have HLa : upd H1 a (.frz od (.dK (dEs es))) a = some (.frz od (.dK (dEs es))) := upd_same
    have hbL : upd H1 a (.frz od (.dK (dEs es))) b = some (bagO x y z) := by rw [upd_ne (Ne.symm nab)]; exact hb1
    have QL : ∀ x' y' z' H', BagOk (n + 60) x' y' z' → Keep [b] (upd H1 a (.frz od (.dK (dEs es)))) H' → H' b = some (bagO x' y' z') → Q (.bl true) (upd H' a (.dK (dEs es))) := fun x' y' z' H' o k hb' => q x' y' z' _ o (k1.nil.trans (keep_lock ml1.hd k)) (by rw [upd_ne (Ne.symm nab)]; exact hb')
    generalize upd H1 a (.frz od (.dK (dEs es))) = HL at ask0 case0 HLa hbL QL ⊢
    clear hj1 pp1 ml1 sd1 hb1 al
    have bl : ∀ {H' x y z}, H' b = some (bagO x y z) → LM2 [b] H' := fun h p hp => by rw [List.mem_singleton.mp hp]; exact ⟨_, h, lx_bag _ _ _⟩
    refine for_it walk_keys (fun i σ H' => (∃ y7 y8 y9 y10 y11 y12 y13 y14 y15 y16 y17 y18 y19 y20, σ = [some (.ref b), some (.ref j), some (.ref a), some (.str ho), some (.str bd), some (.ref s), some (.ref l), y7, y8, y9, y10, y11, y12, y13, y14, y15, y16, y17, y18, y19, y20]) ∧ Keep [b] HL H' ∧ ∃ x y z, H' b = some (bagO x y z) ∧ BagOk (n + 8 * i) x y z) ⟨⟨_, _, _, _, _, _, _, _, _, _, _, _, _, _, rfl⟩, Keep.refl, _, _, _, hbL, bok⟩ (fun i σ H' _ h => h.2.1 _ _ HLa (by simpa using nab)) ?_ ?_
    · rintro i v σ H2 H2' hi ⟨⟨y7, y8, y9, y10, y11, y12, y13, y14, y15, y16, y17, y18, y19, y20, rfl⟩, k2, x2, y2, z2, hb2, ok2⟩ ⟨rfl, kk, v, hkv, rfl⟩
      obtain ⟨u, rfl, hu⟩ : ∃ u, kk = Sum.inr u ∧ u ∈ (mEs es).map (·.1) := by
        have h1 := List.mem_of_getElem? hkv
        unfold dEs at h1
        obtain ⟨e, he, ee⟩ := List.mem_map.mp h1
        exact ⟨e.2.1, (congrArg Prod.fst ee).symm, List.mem_map_of_mem (List.mem_map_of_mem he : e.2 ∈ mEs es)⟩
      have hi6 : i < 6 := by
        rw [dEs_len] at hi
        rw [mEs_len] at gl6
        omega
      have ask2 := (ask0 u hu).keepM (bl hbL) k2
      have case2 := (case0 u hu).keepM (bl hbL) k2
      obtain ⟨x, hx, ex⟩ := List.mem_map.mp hu
      have uasc : Asc u := by rw [← ex]; exact (gd.us x hx).1.asc
      clear hx ex x
      have me : mget (sm (mEs es)) u = mget (mEs es) u := mget_perm gd.nd pm u
      clear ask0 case0
      walk_at "rd1"
      refine ⟨_, rfl, _, rfl, _, rfl, _, rfl, a, es, s, c, u, ho, bd, rfl, case2.1, gd, case2.2.2.1, ok, hu, p2, fun cl H3 ncl k3 tl3 => ?_⟩
      have ncb : cl ≠ b := fun e => by rw [e, hb2] at ncl; cases ncl
      have ask3 := ask2.keep k3
      have case3 := case2.keep k3
      have hb3 := k3 _ _ hb2 (by simp)
      obtain ⟨dj3, hj3⟩ := ask3.jo
      refine ⟨_, rfl, j, dj3, _, rfl, hj3, rfl, _, rfl, _, rfl, _, rfl, _, rfl, ?_⟩
      refine ⟨j, p, _, _, l, c, u, ho, bd, rfl, ask3, fun x4 dx4 H4 nx4 ndx4 k4 h4 => ?_⟩
      rw [me] at h4
      have K4 : Keep [b] HL H4 := k2.trans (k3.trans k4).nil
      have ask4 := ask3.keep k4
      have case4 := case3.keep k4
      have hb4 := k4 _ _ hb3 (by simp)
      have tl4 : TL H4 cl (caseOf (mget (mEs es) u) c u ho bd) := by
        obtain ⟨vs, h, pv⟩ := tl3
        exact ⟨vs, k4 _ _ h (by simp), Paired.mapP pv fun _ _ r => TV.keep r k4⟩
      clear ask2 case2 ask3 case3 hj3 tl3 k3 k4 k2 hb2 hb3 ncl nx4 ndx4
      have asc := asc_case (held := mget (mEs es) u) (u := u) (ho := ho) (bd := bd) ok p2 uasc
      have l7 := case_len (held := mget (mEs es) u) (u := u) (ho := ho) (bd := bd) p2 ok.s.l6
      have dor := fun d => due_order (held := mget (mEs es) u) (u := u) (ho := ho) (bd := bd) ok p1 p2 d
      have dsub := fun d => due_sub (held := mget (mEs es) u) (c := c) (u := u) (ho := ho) (bd := bd) p1 d
      have gr0 := fun d => grants (caseOf (mget (mEs es) u) c u ho bd) d
      refine ⟨_, rfl, by decide, by decide, ?_⟩
      refine for_rg (fun d σ H' => (∃ y10 y11 y12 y13 y14 y15 y16 y17 y18 y19 y20, σ = [some (.ref b), some (.ref j), some (.ref a), some (.str ho), some (.str bd), some (.ref s), some (.ref l), some (.str u), some (.ref cl), some (.ref x4), y10, y11, y12, y13, y14, y15, y16, y17, y18, y19, y20]) ∧ Keep [b] H4 H' ∧ ∃ x y z, H' b = some (bagO x y z) ∧ BagOk (n + 8 * i + d) x y z) ⟨⟨_, _, _, _, _, _, _, _, _, _, _, rfl⟩, Keep.refl, _, _, _, hb4, ok2⟩ ?_ ?_
      · rintro d σ H5 hd ⟨⟨y10, y11, y12, y13, y14, y15, y16, y17, y18, y19, y20, rfl⟩, k5, x5, y5, z5, hb5, ok5⟩
        have hd : d < 8 := hd
        have ask5 := ask4.keepM (bl hb4) k5
        have tl5 := tl4.keepM ncb hb4 k5
        have d0 : 0 ≤ 0 + (d : Int) := by omega
        have d1 : 0 + (d : Int) ≤ 7 := by omega
        generalize 0 + (d : Int) = dg at d0 d1 ⊢
        have dor := dor dg
        have dsub := dsub dg
        generalize hts : caseOf (mget (mEs es) u) c u ho bd = ts at h4 tl4 tl5 asc l7 dor dsub
        obtain ⟨vs, hcl, pv⟩ := tl5
        have lv := Paired.length pv
        refine ⟨_, rfl, cl, rfl, ⟨_, .inl (.inl hcl)⟩, fun D hD => ?_⟩
        refine lc_it (walk_list (xs := vs)) (fun i H' => Keep [] H5 H' ∧ PL H' D ((fitD (ts.take i) dg).map pr2)) ⟨keep_new hD, [], upd_same, .nil⟩ (fun i H' _ h => .inl (.inl (h.1 _ _ hcl (by simp)))) (fun i' x H6 H7 hi h6 y => ?_) (fun H6 h6 => ?_)
        · obtain ⟨rfl, hx⟩ := y
          obtain ⟨k6, ws, hD6, pw⟩ := h6
          obtain ⟨e, he, t, rfl, ht⟩ := tl_get pv hx
          have ht6 := k6 _ _ ht (by simp)
          refine ⟨rfl, ?_⟩
          refine ⟨_, rfl, _, rfl, t, _, _, _, rfl, rfl, .inl (.inl ht6), rfl, _, _, rfl, rfl, ?_⟩
          refine ⟨_, rfl, rfl, _, rfl, ?_⟩
          show if decide (V.int (Builtin.bitAnd dg e.2.2) = V.int dg) = true then _ else _
          rw [show decide (V.int (Builtin.bitAnd dg e.2.2) = V.int dg) = decide (Builtin.bitAnd e.2.2 dg = dg) by rw [and_swap dg]; simp]
          refine ifB (fun c => ?_) (fun c => ?_)
          · refine ⟨_, rfl, 2, rfl, t, _, rfl, ht6, fun t7 H7 k7 h7 => ?_⟩
            rw [show (2 : Int) = ((2 : Nat) : Int) by rfl, cutV_to] at h7
            have hD7 := k7 _ _ hD6 (by simp)
            have lws : ws.length ≤ 7 := by
              rw [Paired.length pw, List.length_map]
              have h1 := List.length_filter_le (fun e => decide (Builtin.bitAnd e.2.2 dg = dg)) (ts.take i')
              have h2 := List.length_take_le' i' ts
              unfold fitD
              omega
            refine ⟨_, hD7, size_ok (by omega), keep_free (k6.trans k7) hD, ws ++ [.ref t7], upd_same, ?_⟩
            unfold fitD
            rw [filt_snocT he, if_pos c, List.map_append]
            exact paired_snoc (Paired.mapP pw fun _ _ r => PV.put (PV.keep r k7) hD7 (fun _ z => by cases z)) (PV.put ⟨t7, rfl, h7⟩ hD7 (fun _ z => by cases z))
          · refine ⟨k6, ws, hD6, ?_⟩
            unfold fitD
            rw [filt_snocT he, if_neg (by rw [c]; exact Bool.false_ne_true), List.append_nil]
            exact pw
        · obtain ⟨k6, ws, hD6, pw⟩ := h6
          rw [lv, List.take_length] at pw
          have ascP : ∀ {xs : Tr}, (∀ e ∈ xs, e ∈ ts) → AscP (xs.map pr2) := fun {xs} hx e he => by
            obtain ⟨f, hf, rfl⟩ := List.mem_map.mp he
            exact asc f (hx f hf)
          have ascF : AscP ((fitD ts dg).map pr2) := ascP fun e he => (List.mem_filter.mp he).1
          have ascD : AscP (dueOf ts dg) := by
            unfold dueOf
            split
            · exact ascP fun e he => he
            · exact ascF
          have ldue : (dueOf ts dg).length ≤ 7 := by
            unfold dueOf
            split
            · rw [List.length_map]; exact l7
            · rw [List.length_map]
              have h1 := List.length_filter_le (fun e => decide (Builtin.bitAnd e.2.2 dg = dg)) ts
              unfold fitD
              omega
          have fnil : ((fitD ts dg).map pr2 = []) = (fitD ts dg = []) := by rw [List.map_eq_nil_iff]
          have main : ∀ (H7 : Hp) (F : VK), Keep [] H6 H7 → (∀ le H', Keep [] H7 H' → PL H' le (dueOf ts dg) → F (.ref le) H') → (tIf (tTest (tOp (rNeD K) (tVar 11) (tLstS tNil))) (tVar 11) (tLc (iList K (tVar 8)) (gName 19) tYes (tSl rSlK (tVar 19) tNoPart (tPart (tC (V.int 2)))) (List.map (fun x => x.snd) [(Str.ofString "_law_one", 19)]))) [some (.ref b), some (.ref j), some (.ref a), some (.str ho), some (.str bd), some (.ref s), some (.ref l), some (.str u), some (.ref cl), some (.ref x4), some (.int dg), some (.ref D), y12, y13, y14, y15, y16, y17, y18, y19, y20] H7 F := fun H7 F k7 hF => by
            refine ⟨_, rfl, Nat.zero_le _, NewS.mk fun l8 H8 n8 s8 k8 h8 => ?_⟩
            have pw8 := Paired.mapP pw fun _ _ r => PV.keep r (k7.trans k8)
            refine ⟨.list (((fitD ts dg).map pr2).map prD), .list [], .lst (.inl (.inl ((k7.trans k8) _ _ hD6 (by simp)))) (dp_pr pw8), .lst (.inl (.inl h8)) .nil, shaped_pr ascF, rfl, ?_⟩
            rw [eqv_prnil]
            refine ⟨_, rfl, ?_⟩
            refine ifN (fun e => ?_) (fun e => ?_)
            · refine ⟨_, rfl, ?_⟩
              refine hF D H8 k8 ?_
              rw [show dueOf ts dg = (fitD ts dg).map pr2 from if_neg fun z => e (by rw [z]; rfl)]
              exact ⟨ws, (k7.trans k8) _ _ hD6 (by simp), pw8⟩
            · have e2 : dueOf ts dg = ts.map pr2 := if_pos (by rw [List.map_eq_nil_iff] at e; exact e)
              have kk := (k6.trans k7).trans k8
              have hcl8 := kk _ _ hcl (by simp)
              refine ⟨_, rfl, cl, rfl, ⟨_, .inl (.inl hcl8)⟩, fun D2 hD2 => ?_⟩
              refine lc_it (walk_list (xs := vs)) (fun i H' => Keep [] H8 H' ∧ PL H' D2 ((ts.take i).map pr2)) ⟨keep_new hD2, [], upd_same, .nil⟩ (fun i H' _ h => .inl (.inl (h.1 _ _ hcl8 (by simp)))) (fun i x H9 H10 hi h9 y => ?_) (fun H9 h9 => ?_)
              · obtain ⟨rfl, hx⟩ := y
                obtain ⟨k9, us, hD9, pu⟩ := h9
                obtain ⟨e, he, t, rfl, ht⟩ := tl_get pv hx
                refine ⟨rfl, ?_⟩
                refine ⟨_, rfl, 2, rfl, t, _, rfl, (kk.trans k9) _ _ ht (by simp), fun t7 H11 k11 h11 => ?_⟩
                rw [show (2 : Int) = ((2 : Nat) : Int) by rfl, cutV_to] at h11
                have hD11 := k11 _ _ hD9 (by simp)
                have lus : us.length ≤ 7 := by
                  rw [Paired.length pu, List.length_map]
                  have h2 := List.length_take_le' i ts
                  omega
                refine ⟨_, hD11, size_ok (by omega), keep_free (k9.trans k11) hD2, us ++ [.ref t7], upd_same, ?_⟩
                rw [take_map_snoc he]
                exact paired_snoc (Paired.mapP pu fun _ _ r => PV.put (PV.keep r k11) hD11 (fun _ z => by cases z)) (PV.put ⟨t7, rfl, h11⟩ hD11 (fun _ z => by cases z))
              · obtain ⟨k9, us, hD9, pu⟩ := h9
                rw [lv, List.take_length] at pu
                refine hF D2 H9 (k8.trans k9) ?_
                rw [e2]
                exact ⟨us, hD9, pu⟩
          refine ⟨_, rfl, Nat.zero_le _, NewS.mk fun l7 H7 n7 s7 k7 h7 => ?_⟩
          refine ⟨.list (((fitD ts dg).map pr2).map prD), .list [], .lst (.inl (.inl (k7 _ _ hD6 (by simp)))) (dp_pr (Paired.mapP pw fun _ _ r => PV.keep r k7)), .lst (.inl (.inl h7)) .nil, shaped_pr ascF, rfl, ?_⟩
          rw [eqv_prnil]
          simp only [List.map_eq_nil_iff]
          rw [fit_nil]
          refine main H7 _ k7 fun le H8 k8 ple => ?_
          clear main
          refine ⟨(show 2 ≤ sizeLine by decide), NewO.mk fun te H9 n9 k9 h9 => ?_⟩
          have ple9 := ple.keep k9
          have K9 : Keep [] H5 H9 := ((k6.trans k7).trans k8).trans k9
          have ask9 := ask5.keep K9
          have hb9 := K9 _ _ hb5 (by simp)
          clear ple hD6 pw h7 n7 s7 n9 k6 k7 k8 hD fnil ascF ascP ask5 pv hcl lv
          have hte9 := h9
          clear h9 k9
          refine ⟨_, rfl, _, rfl, d0, d1, fun H10 k10 => ?_⟩
          have gdt := lw_good d0 d1
          have grv := rev_good d0 d1
          have rsz : (revT (lw dg)).length ≤ sizeLine := eight (F := fun d => (revT (lw d)).length ≤ sizeLine) (by decide +kernel) d0 d1
          generalize lw dg = tx at gdt grv rsz ⊢
          refine ⟨_, rfl, _, rfl, tx, rfl, rsz, ?_⟩
          refine ⟨_, rfl, fun x dx_ nx ndx nex => ⟨x, dx_, tx, dg, rfl, upd_same, gdt, fun H11 k11 h11 => ⟨rfl, ?_⟩⟩⟩
          have k11' : Keep [] H10 H11 := keep_of_new Keep.refl nx ndx k11
          refine ⟨(show 3 ≤ sizeLine by decide), NewS.mk fun lp H12 n12 s12 k12 h12 => ?_⟩
          have K12 : Keep [] H9 H12 := (k10.trans k11').trans k12
          have parts : ∀ v ∈ [V.str tx, .str (revT tx), .ref x], Part A H12 v dg := fun v hv => by
            simp only [List.mem_cons, List.not_mem_nil, or_false] at hv
            rcases hv with rfl | rfl | rfl
            · exact .inr ⟨_, rfl, gdt⟩
            · exact .inr ⟨_, rfl, grv⟩
            · exact .inl ⟨x, dx_, rfl, k12 _ _ h11 (by simp), d0, d1⟩
          have hb12 := K12 _ _ hb9 (by simp)
          have nlpb : lp ≠ b := fun e => by
            have := (k10.trans k11') _ _ hb9 (by simp)
            rw [e, this] at n12
            cases n12
          refine ⟨_, rfl, b, 3, n + 8 * i + d, _, _, _, rfl, hb12, ok5, by omega, by decide, by decide, fun tk x13 y13' z13 H13 c0 c1 ok13 k13 hb13 => ?_⟩
          obtain ⟨jj, rfl⟩ := Int.eq_ofNat_of_zero_le c0
          have jl : jj < [V.str tx, .str (revT tx), .ref x].length := by
            show jj < 3
            omega
          have hpart := parts _ (List.getElem_mem jl)
          refine ⟨lp, _, _, [V.str tx, .str (revT tx), .ref x][jj], rfl, rfl, .inl (.inl (k13 _ _ h12 (by simpa using nlpb))), atI_nat (List.getElem?_eq_getElem jl), ?_⟩
          generalize [V.str tx, .str (revT tx), .ref x][jj] = lv at hpart ⊢
          have pM : ∀ {H' H'' : Hp} {x y z : Int}, H' b = some (bagO x y z) → Part A H' lv dg → Keep [b] H' H'' → Part A H'' lv dg := fun hb h k => h.imp (fun r => r.keepM (bl hb) k) id
          have part13 := pM hb12 hpart k13
          have ask12 := ask9.keep K12
          have ask13 := ask12.keepM (bl hb12) k13
          have ebt : bagO x5 y5 z5 ≠ .tup [.bl (grants ts dg), .ref le] := fun z => by cases z
          have nteb : te ≠ b := ne_of hte9 hb9 (fun z => by cases z)
          have hte13 := k13 _ _ (K12 _ _ hte9 (by simp)) (by simpa using nteb)
          obtain ⟨ve, hle9, pve9⟩ := ple9
          have nleb : le ≠ b := ne_of hle9 hb9 (fun z => by
            have := HO.lst.inj z
            have h := pve9
            rw [this] at h
            revert h
            generalize dueOf ts dg = du
            intro h
            cases h with
            | cons r _ =>
              obtain ⟨_, e, _⟩ := r
              cases e)
          have hle13 := k13 _ _ (K12 _ _ hle9 (by simp)) (by simpa using nleb)
          have pve13 : Paired (PV H13) ve (dueOf ts dg) := Paired.mapP pve9 fun _ _ ⟨t, e, ht⟩ => ⟨t, e, k13 _ _ (K12 _ _ ht (by simp)) (by simpa using ne_of ht hb9 (fun z => by cases z))⟩
          have K13 : Keep [b] H5 H13 := (K9.trans K12).nil.trans k13
          clear hte9 hle9 pve9 ask9 ask12 K12 k10 k11 k11' k12 h11 h12 n12 s12 parts hpart nx ndx nex hb9 K9 hb12 k13 hb5
          obtain ⟨dj13, hj13⟩ := ask13.jo
          refine ⟨_, rfl, j, dj13, _, rfl, hj13, rfl, _, rfl, _, rfl, _, rfl, _, rfl, _, rfl, ?_⟩
          refine ⟨j, p, _, _, l, c, u, ho, bd, lv, dg, rfl, ask13, part13, fun tf lf H14 ntf nlf k14 htf plf => ?_⟩
          rw [me, hts] at htf plf
          have ask14 := ask13.keep k14
          have part14 := part13.keep k14
          have hb14 := k14 _ _ hb13 (by simp)
          have hte14 := k14 _ _ hte13 (by simp)
          have hle14 := k14 _ _ hle13 (by simp)
          have pve14 : Paired (PV H14) ve (dueOf ts dg) := Paired.mapP pve13 fun _ _ r => r.keep k14
          have nlfb : lf ≠ b := fun e => by rw [e, hb13] at nlf; cases nlf
          have nlfle : le ≠ lf := fun e => by rw [← e, hle13] at nlf; cases nlf
          have fl5 : ∀ x o, H5 x = some o → x ≠ b → x ≠ lf := fun x o hx nb e => by
            have := K13 _ _ hx (by simpa using nb)
            rw [e, nlf] at this
            cases this
          have K14 : Keep [b] H5 H14 := K13.trans k14.nil
          obtain ⟨vf, hlf, pvf⟩ := plf
          have dpE : ∀ {H'}, H' te = some (.tup [.bl (grants ts dg), .ref le]) → H' le = some (.lst ve) → Paired (PV H') ve (dueOf ts dg) → Dp K H' (.ref te) (expD (grants ts dg) (dueOf ts dg)) := fun h1 h2 h3 => .tup (.inl (.inl h1)) (.cons (.bl _) (.cons (.lst (.inl (.inl h2)) (dp_pr h3)) .nil))
          have dpF : Dp K H14 (.ref tf) (expD (grants ts dg) (dueOf ts dg)) := .tup (.inl (.inl htf)) (.cons (.bl _) (.cons (.lst (.inl (.inl hlf)) (dp_pr pvf)) .nil))
          have shE := shaped_exp (b := grants ts dg) ascD
          clear hte13 hle13 pve13 ask13 part13 hj13 K13 hb13 ntf
          refine ⟨_, rfl, _, rfl, _, _, dpF, dpE hte14 hle14 pve14, shE, shE, ?_⟩
          rw [eqv_exp]
          refine ⟨_, rfl, ?_⟩
          refine ifF rfl ?_
          refine ⟨_, rfl, _, _, _, _, _, rfl, .ty _, .base (.tup htf), kit_ty FR.ki_tup_tuple, ?_⟩
          refine ⟨true, rfl, ?_⟩
          refine ifF rfl ?_
          refine ⟨_, rfl, tf, _, _, _, rfl, rfl, .inl (.inl htf), rfl, ?_⟩
          refine ⟨_, _, _, _, _, rfl, .ty _, .base (.bl _), ki_bl_bool2, ?_⟩
          refine ⟨true, rfl, ?_⟩
          refine ifF rfl ?_
          obtain ⟨dj14, hj14⟩ := ask14.jo
          refine ⟨j, rfl, _, rfl, _, rfl, _, rfl, _, rfl, _, rfl, ⟨dj14, _, hj14⟩, j, p, _, _, l, c, u, ho, bd, _, dg, rfl, ask14, .inr ⟨_, rfl, gdt⟩, fun H15 k15 => ?_⟩
          rw [me, hts]
          have htf15 := k15 _ _ htf (by simp)
          refine ⟨_, rfl, tf, _, _, _, rfl, rfl, .inl (.inl htf15), rfl, ?_⟩
          refine ⟨.bool (grants ts dg), .bool (grants ts dg), .bl _, .bl _, rfl, rfl, ?_⟩
          have ee : PyData.eqv (.bool (grants ts dg)) (.bool (grants ts dg)) = true := by cases grants ts dg <;> rfl
          rw [ee]
          refine ⟨_, rfl, ?_⟩
          refine ifF rfl ?_
          have ask15 := ask14.keep k15
          obtain ⟨dxA, o_, g_, t_, mv_, u_, s_2, ku_, ks_, hA15⟩ := id ask15.al
          refine ⟨_, rfl, l, dxA, _, rfl, hA15.ob, rfl, l, c, rfl, ask15.al, ok, p1, p2, fun el H16 nel k16 ele => ?_⟩
          obtain ⟨vl, hel, pvl⟩ := ele
          have lvl := Paired.length pvl
          have K16 : Keep [] H14 H16 := k15.trans k16
          have hlf16 := K16 _ _ hlf (by simp)
          have htf16 := K16 _ _ htf (by simp)
          have pvf16 := Paired.mapP pvf fun _ _ r => r.keep K16
          refine ⟨el, rfl, ⟨_, .inl (.inl hel)⟩, fun D2 hD2 => ?_⟩
          refine lc_it (walk_list (xs := vl)) (fun i H' => Keep [] H16 H' ∧ PL H' D2 (((entOf c).take i).filter fun x => decide (x ∈ dueOf ts dg))) ⟨keep_new hD2, [], upd_same, .nil⟩ (fun i H' _ h => .inl (.inl (h.1 _ _ hel (by simp)))) (fun i' x H17 H18 hi h17 y => ?_) (fun H17 h17 => ?_)
          · obtain ⟨rfl, hx⟩ := y
            obtain ⟨k17, us, hD17, pu⟩ := h17
            obtain ⟨e, he, t, xv, rfl, ht⟩ := pr_get pvl hx
            have ht17 := k17 _ _ ht (by simp)
            refine ⟨rfl, ?_⟩
            refine ⟨_, rfl, 2, rfl, t, _, rfl, ht17, fun t18 H18 k18 h18 => ?_⟩
            rw [show (2 : Int) = ((2 : Nat) : Int) by rfl, cutV_to] at h18
            have h18 : H18 t18 = some (.tup [.str e.1, .str e.2]) := h18
            refine ⟨_, rfl, tf, _, _, _, rfl, rfl, .inl (.inl ((k17.trans k18) _ _ htf16 (by simp))), rfl, ?_⟩
            refine ⟨prD e, (dueOf ts dg).map prD, .tup (.inl (.inl h18)) (.cons (.str _) (.cons (.str _) .nil)), .lst (.inl (.inl ((k17.trans k18) _ _ hlf16 (by simp)))) (dp_pr (Paired.mapP pvf16 fun _ _ r => r.keep (k17.trans k18))), lay_one (ent_asc ok p1 p2 e (List.mem_of_getElem? he)), shaped_pr ascD, ?_⟩
            rw [any_pr]
            refine ⟨_, rfl, ?_⟩
            have k19 := k17.trans k18
            have hD18 := k18 _ _ hD17 (by simp)
            refine ifB (fun cc => ?_) (fun cc => ?_)
            · refine ⟨_, rfl, 2, rfl, t, _, rfl, k18 _ _ ht17 (by simp), fun t20 H20 k20 h20 => ?_⟩
              rw [show (2 : Int) = ((2 : Nat) : Int) by rfl, cutV_to] at h20
              have hD20 := k20 _ _ hD18 (by simp)
              have lus : us.length ≤ 16 := by
                rw [Paired.length pu]
                have h1 := List.length_filter_le (fun x => decide (x ∈ dueOf ts dg)) ((entOf c).take i')
                have h2 := List.length_take_le' i' (entOf c)
                have h3 := ent_len ok p1 p2
                omega
              refine ⟨_, hD20, size_ok (by omega), keep_free (k19.trans k20) hD2, us ++ [.ref t20], upd_same, ?_⟩
              rw [filt_snocP he, if_pos cc]
              exact paired_snoc (Paired.mapP pu fun _ _ r => PV.put (PV.keep r (k18.trans k20)) hD20 (fun _ z => by cases z)) (PV.put ⟨t20, rfl, h20⟩ hD20 (fun _ z => by cases z))
            · refine ⟨k19, us, hD18, ?_⟩
              rw [filt_snocP he, if_neg (by rw [cc]; exact Bool.false_ne_true), List.append_nil]
              exact Paired.mapP pu fun _ _ r => r.keep k18
          · obtain ⟨k17, us, hD17, pu⟩ := h17
            rw [lvl, List.take_length, dor] at pu
            have K17 := K16.trans k17
            have hlf17 := K17 _ _ hlf (by simp)
            have htf17 := K17 _ _ htf (by simp)
            have pvf17 := Paired.mapP pvf fun _ _ r => r.keep K17
            refine ⟨_, rfl, _, rfl, tf, _, _, _, rfl, rfl, .inl (.inl htf17), rfl, ?_⟩
            refine ⟨.list ((dueOf ts dg).map prD), .list ((dueOf ts dg).map prD), .lst (.inl (.inl hD17)) (dp_pr pu), .lst (.inl (.inl hlf17)) (dp_pr pvf17), shaped_pr ascD, shaped_pr ascD, ?_⟩
            rw [eqv_pl, decide_eq_true rfl]
            refine ⟨_, rfl, ?_⟩
            refine ifF rfl ?_
            refine ⟨_, rfl, tf, _, _, _, rfl, rfl, .inl (.inl htf17), rfl, .inl ⟨rfl, _, .inl (.inl hlf17)⟩, ?_⟩
            have lvf : vf.length ≤ 7 := by rw [Paired.length pvf]; exact ldue
            refine ⟨lf, vf, _, rfl, rfl, hlf17, size_ok (by omega), MutO.mk fun H18 k18 h18 => ?_⟩
            have ask17 := ask15.keep (k16.trans k17)
            have hb17 := K17 _ _ hb14 (by simp)
            have hb18 := k18 _ _ hb17 (by simpa using Ne.symm nlfb)
            have hte17 := K17 _ _ hte14 (by simp)
            have hle17 := K17 _ _ hle14 (by simp)
            have lxf : Lx (.lst vf) := lx_ref vf fun v hv => by
              obtain ⟨i, hi⟩ := List.getElem?_of_mem hv
              obtain ⟨e, _, t, h, _⟩ := pr_get pvf hi
              exact ⟨t, h⟩
            have ask18 := ask17.keepM (L := [lf]) (fun p hp => by rw [List.mem_singleton.mp hp]; exact ⟨_, hlf17, lxf⟩) k18
            have part18 : Part A H18 lv dg := (part14.keep K17).imp (fun r => r.keepM (L := [lf]) (fun p hp => by rw [List.mem_singleton.mp hp]; exact ⟨_, hlf17, lxf⟩) k18) id
            have hte18 := k18 _ _ hte17 (by simpa using ne_of hte17 hlf17 (fun z => by cases z))
            have hle18 := k18 _ _ hle17 (by simpa using nlfle)
            have pve18 : Paired (PV H18) ve (dueOf ts dg) := Paired.mapP pve14 fun _ _ r => by
              obtain ⟨t, e, ht⟩ := r.keep K17
              exact ⟨t, e, k18 _ _ ht (by simpa using ne_of ht hlf17 (fun z => by cases z))⟩
            have K18 : Keep [b] H5 H18 := fun x o hx nx => k18 _ _ ((K14.trans K17.nil) _ _ hx nx) (by simpa using fl5 x o hx (by simpa using nx))
            obtain ⟨dj18, hj18⟩ := ask18.jo
            refine ⟨_, rfl, j, dj18, _, rfl, hj18, rfl, _, rfl, _, rfl, _, rfl, _, rfl, _, rfl, ?_⟩
            refine ⟨j, p, _, _, l, c, u, ho, bd, lv, dg, rfl, ask18, part18, fun tg lg H19 ntg nlg k19 htg plg => ?_⟩
            rw [me, hts] at htg plg
            obtain ⟨vg, hlg, pvg⟩ := plg
            have dpG : Dp K H19 (.ref tg) (expD (grants ts dg) (dueOf ts dg)) := .tup (.inl (.inl htg)) (.cons (.bl _) (.cons (.lst (.inl (.inl hlg)) (dp_pr pvg)) .nil))
            refine ⟨_, rfl, _, _, dpG, dpE (k19 _ _ hte18 (by simp)) (k19 _ _ hle18 (by simp)) (Paired.mapP pve18 fun _ _ r => r.keep k19), shE, shE, ?_⟩
            rw [eqv_exp]
            refine ⟨_, rfl, ?_⟩
            refine ifF rfl ?_
            exact ⟨⟨_, _, _, _, _, _, _, _, _, _, _, rfl⟩, k5.trans (K18.trans k19.nil), _, _, _, k19 _ _ hb18 (by simp), ok13.mono (by omega)⟩
      · rintro σ H5 ⟨⟨y10, y11, y12, y13, y14, y15, y16, y17, y18, y19, y20, rfl⟩, k5, x5, y5, z5, hb5, ok5⟩
        have ask5 := ask4.keepM (bl hb4) k5
        have case5 := case4.keepM (bl hb4) k5
        have h45 : H5 x4 = some (RgO A dx4 (sumG (caseOf (mget (mEs es) u) c u ho bd))) := (bl hb4).tup k5 h4 nlx_ins
        have hsum : sumG (caseOf (mget (mEs es) u) c u ho bd) = (([(4 : Int), 2, 1].filter fun k => grants (caseOf (mget (mEs es) u) c u ho bd) k).sum) := by
          exact sum_filt fun k => grants (caseOf (mget (mEs es) u) c u ho bd) k
        have s8 : In8 (sumG (caseOf (mget (mEs es) u) c u ho bd)) := by
          rw [← orD_sum (case_dg ok)]
          exact orD_in (case_dg ok) ⟨by decide, by decide⟩
        clear tl4 asc dor dsub l7 gr0 h4 ask4 case4
        refine ⟨(show 3 ≤ sizeLine by decide), NewS.mk fun l6 H6 n6 s6 k6 h6 => ⟨l6, rfl, ⟨_, .inl (.inl h6)⟩, fun D hD => ?_⟩⟩
        refine lc_it (walk_list (xs := [.int 4, .int 2, .int 1])) (fun i H' => Keep [] H6 H' ∧ H' D = some (.lst ((([(4 : Int), 2, 1].take i).filter fun k => grants (caseOf (mget (mEs es) u) c u ho bd) k).map V.int))) ⟨keep_new hD, upd_same⟩ (fun i H' _ h => .inl (.inl (h.1 _ _ h6 (by simp)))) (fun i' v H7 H8 hi h7 y => ?_) (fun H7 h7 => ?_)
        · obtain ⟨rfl, hx⟩ := y
          obtain ⟨k7, h7⟩ := h7
          obtain ⟨kk, hk, rfl⟩ : ∃ kk : Int, [(4 : Int), 2, 1][i']? = some kk ∧ v = .int kk := by
            have hx : ([(4 : Int), 2, 1].map V.int)[i']? = some v := hx
            rw [List.getElem?_map] at hx
            obtain ⟨kk, h1, h2⟩ := Option.map_eq_some_iff.mp hx
            exact ⟨kk, h1, h2.symm⟩
          have fs : ([(4 : Int), 2, 1].take (i' + 1)).filter (fun k => grants (caseOf (mget (mEs es) u) c u ho bd) k) = ([(4 : Int), 2, 1].take i').filter (fun k => grants (caseOf (mget (mEs es) u) c u ho bd) k) ++ if grants (caseOf (mget (mEs es) u) c u ho bd) kk = true then [kk] else [] := by
            rw [List.take_add_one, hk, List.filter_append]
            show _ ++ List.filter _ [kk] = _
            rw [List.filter_cons, List.filter_nil]
          refine ⟨rfl, ?_⟩
          refine ⟨_, rfl, _, rfl, _, rfl, _, rfl, _, rfl, _, rfl, a, es, s, c, u, ho, bd, kk, rfl, case5.keep (k6.trans k7), fun H9 k9 => ?_⟩
          have h9 := k9 _ _ h7 (by simp)
          refine ⟨_, rfl, ?_⟩
          refine ifB (fun cc => ?_) (fun cc => ?_)
          · refine ⟨_, rfl, _, h9, size_ok (by
              rw [List.length_map]
              refine Nat.le_trans (List.length_filter_le _ _) ?_
              rw [List.length_take]
              exact Nat.le_trans (Nat.min_le_right _ _) (show 3 ≤ 1000000 by decide)), keep_free (k7.trans k9) hD, ?_⟩
            rw [upd_same, fs, if_pos cc, List.map_append]
            rfl
          · refine ⟨k7.trans k9, ?_⟩
            rw [fs, if_neg (by rw [cc]; exact Bool.false_ne_true), List.append_nil]
            exact h9
        · obtain ⟨k7, h7⟩ := h7
          have K7 := k6.trans k7
          have ask7 := ask5.keep K7
          have h47 := K7 _ _ h45 (by simp)
          have hb7 := K7 _ _ hb5 (by simp)
          obtain ⟨dj7, hj7⟩ := ask7.jo
          refine ⟨_, rfl, j, dj7, _, rfl, hj7, rfl, _, rfl, _, rfl, _, rfl, _, rfl, ?_⟩
          refine ⟨j, p, _, _, l, c, u, ho, bd, rfl, ask7, fun xt dxt H8 nxt ndxt k8 h8 => ?_⟩
          rw [me] at h8
          have h78 := k8 _ _ h7 (by simp)
          have h48 := k8 _ _ h47 (by simp)
          have hb8 := k8 _ _ hb7 (by simp)
          refine ⟨_, rfl, xt, dxt, _, rfl, h8, _, rfl, ?_⟩
          refine ifF rfl ?_
          refine ⟨_, rfl, xt, dxt, _, rfl, h8, _, _, rfl, ⟨xt, dxt, rfl, h8, s8.1, s8.2⟩, ?_⟩
          refine ⟨_, rfl, D, _, rfl, .inl (.inl h78), ?_⟩
          rw [show ([(4 : Int), 2, 1].take [V.int 4, V.int 2, V.int 1].length) = [(4 : Int), 2, 1] from rfl, ← hsum]
          refine ⟨rfl, _, rfl, ?_⟩
          refine ifF (by simp) ?_
          refine ⟨_, rfl, _, rfl, x4, dx4, _, xt, dxt, _, rfl, rfl, h48, h8, _, _, _, _, rfl, ⟨x4, dx4, rfl, h48, s8.1, s8.2⟩, ⟨xt, dxt, rfl, h8, s8.1, s8.2⟩, _, rfl, _, rfl, ?_⟩
          refine ifF (by simp) ?_
          exact ⟨⟨_, _, _, _, _, _, _, _, _, _, _, _, _, _, rfl⟩, (K4.trans k5).trans (K7.trans k8).nil, _, _, _, hb8, ok5.mono (by show n + 8 * i + 8 ≤ _; omega)⟩
    · rintro σ H2 ⟨⟨y7, y8, y9, y10, y11, y12, y13, y14, y15, y16, y17, y18, y19, y20, rfl⟩, k2, x2, y2, z2, hb2, ok2⟩
      have lE : (dEs es).length ≤ 6 := by
        rw [dEs_len]
        rw [mEs_len] at gl6
        exact gl6
      exact ⟨k2 _ _ HLa (by simpa using nab), QL _ _ _ H2 (ok2.mono (by omega)) k2 hb2⟩
end
end K26
namespace K26
open PySem PySem.Spec PyProof.Rows L2 FR TL
open C8 (pss_cut pe_gc)
open StX (pe_callS2 pa_star)
section
variable {P : Program} {w : World} {K : PySem.W.Frag} {mg : Str → Option Value} {base : Heap} {A : Ads}
set_option pp.maxSteps 120
theorem bd_People___init___1 (T : Txt w K mg A) : Vals [] [] ∧ Binds K A.d_People___init__ ["self", "members"] [] := ⟨.nil, T.B_People___init__⟩
theorem bd_Judge___init___1 (T : Txt w K mg A) : Vals [] [] ∧ Binds K A.d_Judge___init__ ["self", "people"] [] := ⟨.nil, T.B_Judge___init__⟩
def spLaw (K : PySem.W.Frag) : Sp := fun vs H Q _ => ∃ (a : Addr) (ns : List Int), vs = [.ref a] ∧ SqL K H a (ns.map V.int) ∧ ns.length ≤ 63 ∧ ∀ H', Q (.bl true) H'
theorem keep_sq {H H' : Hp} {a : Addr} {xs : List V} (h : SqL K H a xs) (k : Keep [] H H') : SqL K H' a xs := by
  rcases h with (h | ⟨o, h⟩) | h
  · exact .inl (.inl (k _ _ h (by simp)))
  · exact .inl (.inr ⟨o, k _ _ h (by simp)⟩)
  · exact .inr h
theorem ok_law (T : Txt w K mg A) : FnOk P w K mg base CX0 13 A.f_law A.d_law ["_law_script"] (spLaw K) := by
  refine T.F_law.ok sc_law (fun vs H Q E h => ?_) (fun cdv A_ outer s_ H vs Q E hr h => ?_)
  · obtain ⟨a, ns, rfl, _⟩ := h
    rfl
  · obtain ⟨sa, ns, rfl, hS, hlen, q⟩ := h
    refine ⟨_, (pss_cons (ps_for PassesOwn.never rfl (pi_range1 (by rfl) T.b_range (pa_cons (pe_callB (call_max2 rfl) (by rfl) T.b_max (by decide +kernel) (pa_cons pe_int (pa_cons (pe_callB (call_min2 rfl) (by rfl) T.b_min (by decide +kernel) (pa_cons pe_int (pa_cons (pe_callB call_len_seq (by rfl) T.b_len PySem.boot_len (pa_cons (pv 0) pa_nil)) pa_nil))) pa_nil))) pa_nil)) (pg_name (i := 1) sc_law.nd rfl (.inl rfl)) (pss_cons (ps_set (i := 2) sc_law.nd rfl (.inl rfl) (pe_call (ok_bag T) (hr.mono (by decide)) (by rfl) T.g_bag T.F_bag.kp T.B_bag .nil pass0 (pa_cons (pe_call (ok_cell T) (hr.mono (by decide)) (by rfl) T.g_cell T.F_cell.kp T.B_cell .nil pass0 (pa_cons (pv 0) (pa_cons (pv 1) pa_nil))) pa_nil)))
  (pss_cons (ps_set (i := 3) sc_law.nd rfl (.inl rfl) (pe_call (ok_members T) (hr.mono (by decide)) (by rfl) T.g_members T.F_members.kp T.B_members .nil pass0 (pa_cons (pv 2) pa_nil)))
  (pss_cons (ps_set (i := 4) sc_law.nd rfl (.inl rfl) (pe_make T.mk_Judge (ok_Judge___init__ T) (hr.mono (by decide)) (by rfl) T.gC_Judge (bd_Judge___init___1 T).2 (bd_Judge___init___1 T).1 pass0 (pa_cons (pe_make T.mk_People (ok_People___init__ T) (hr.mono (by decide)) (by rfl) T.gC_People (bd_People___init___1 T).2 (bd_People___init___1 T).1 pass0 (pa_cons (pv 3) pa_nil)) pa_nil)))
  (pss_one (ps_for PassesOwn.never rfl (pi_range1 (by rfl) T.b_range (pa_cons pe_int pa_nil)) (pg_name (i := 5) sc_law.nd rfl (.inl rfl)) (pss_cons (ps_set (i := 6) sc_law.nd rfl (.inl rfl) (pe_ix ix_list (pe_op op_catN (pe_callTy (call_listD rfl) (by rfl) T.b_list (by decide +kernel) (pa_cons (pv 3) pa_nil)) (pe_lstS (pa_cons pe_str pa_nil))) (pe_call (ok_take T) (hr.mono (by decide)) (by rfl) T.g_take T.F_take.kp T.B_take .nil pass0 (pa_cons (pv 2) (pa_cons (pe_op op_add (pe_callB call_lenD (by rfl) T.b_len PySem.boot_len (pa_cons (pv 3) pa_nil)) pe_int) pa_nil))) (fun _ _ => rfl)))
  (pss_cons (ps_set (i := 7) sc_law.nd rfl (.inl rfl) (pe_op op_catN (pe_call (ok_all_groups T) (hr.mono (by decide)) (by rfl) T.g_all_groups T.F_all_groups.kp T.B_all_groups .nil pass0 (pa_cons (pv 3) pa_nil)) (pe_lstS (pa_cons pe_str pa_nil))))
  (pss_cons (ps_set (i := 8) sc_law.nd rfl (.inl rfl) (pe_ix ix_list (pv 7) (pe_call (ok_take T) (hr.mono (by decide)) (by rfl) T.g_take T.F_take.kp T.B_take .nil pass0 (pa_cons (pv 2) (pa_cons (pe_callB call_len_seq (by rfl) T.b_len PySem.boot_len (pa_cons (pv 7) pa_nil)) pa_nil))) (fun _ _ => rfl)))
  (pss_cons (ps_set (i := 9) sc_law.nd rfl (.inl rfl) (pe_call (ok_access T) (hr.mono (by decide)) (by rfl) T.g_access T.F_access.kp T.B_access .nil pass0 (pa_cons (pv 2) (pa_cons (pv 3) pa_nil))))
  (pss_one (ps_if (pt_not (pt_val (pe_call (ok_right T) (hr.mono (by decide)) (by rfl) T.g_right T.F_right.kp T.B_right .nil pass0 (pa_cons (pv 2) (pa_cons (pv 4) (pa_cons (pv 3) (pa_cons (pv 6) (pa_cons (pv 8) (pa_cons (pv 9) pa_nil))))))))) (pss_one (ps_ret pe_bl)) pss_nil))))))))))))
  (pss_one (ps_ret pe_bl))), ?_⟩
    refine ⟨_, rfl, sa, _, rfl, .inl hS, _, _, rfl, _, _, rfl, _, rfl, ?_⟩
    obtain ⟨ca, cb⟩ := cnt_in ((ns.map V.int).length : Int)
    refine ⟨Int.le_trans (by decide) ca, Int.lt_of_le_of_lt cb (by decide), ?_⟩
    generalize (if (if ((ns.map V.int).length : Int) < 5 then ((ns.map V.int).length : Int) else 5) > 2 then (if ((ns.map V.int).length : Int) < 5 then ((ns.map V.int).length : Int) else 5) else 2) = cnt at ca cb ⊢
    refine for_rg (fun i σ H' => (∃ y1 y2 y3 y4 y5 y6 y7 y8 y9, σ = [some (.ref sa), y1, y2, y3, y4, y5, y6, y7, y8, y9]) ∧ Keep [] H H') ⟨⟨none, none, none, none, none, none, none, none, none, rfl⟩, Keep.refl⟩ ?_ ?_
    · rintro i σ H1 hi ⟨⟨y1, y2, y3, y4, y5, y6, y7, y8, y9, rfl⟩, K1⟩
      have hi5 : i < 5 := by
        have hi : i < cnt.toNat := hi
        omega
      refine ⟨_, rfl, _, rfl, ?_⟩
      refine ⟨sa, ns, _, rfl, keep_sq hS K1, by omega, by omega, fun n => ?_⟩
      refine ⟨n, rfl, fun bx by_ bz bok => NewO.mk fun b H2 n2 k2 h2 => ?_⟩
      have K2 := K1.trans k2
      have fb : H b = none := K1.free n2
      clear K1 k2
      refine ⟨_, rfl, b, 0, bx, by_, bz, rfl, h2, bok, by decide, fun es a x3 y3' z3 H3 gd ok3 k3 hb3 ml => ?_⟩
      have K3 : Keep [] H H3 := Keep.fresh K2 k3 (by simpa using fb)
      clear k3 K2 h2 n2
      refine ⟨_, rfl, fun p pdx np ndp npx => ⟨p, pdx, a, _, mEs es, rfl, upd_same, keep_of_new Keep.refl np ndp Keep.refl _ _ ml.hd (by simp), (ML.keep ml (keep_of_new Keep.refl np ndp Keep.refl)).mr.dm.imp fun _ _ r => r.sq, gd, fun H4 d g dx' ks k4 pm hP nd ng => ⟨rfl, ?_⟩⟩⟩
      have k4 : Keep [] H3 H4 := keep_of_new Keep.refl np ndp k4
      refine fun j jdx nj ndj nej => ⟨j, jdx, p, _, _, rfl, upd_same, Pp.keep ⟨_, _, _, _, hP⟩ (keep_of_new Keep.refl nj ndj Keep.refl), fun H5 k5 h5 => ⟨rfl, ?_⟩⟩
      have k5 : Keep [] H4 H5 := keep_of_new Keep.refl nj ndj k5
      have jp5 : JP A H5 j es := ⟨jdx, p, h5, Pp.keep ⟨_, _, _, _, hP⟩ k5, pm⟩
      have K5 : Keep [] H3 H5 := k4.trans k5
      clear hP k4 k5 nd ng np ndp npx nj ndj nej pm h5
      have ml5 := ml.keep K5
      have hb5 := K5 _ _ hb3 (by simp)
      have KH5 := K3.trans K5
      clear K5 K3 hb3 ml
      have ok5 : BagOk 150 x3 y3' z3 := ok3.mono (by omega)
      have bl : ∀ {H' x y z}, H' b = some (bagO x y z) → LM2 [b] H' := fun h p hp => by rw [List.mem_singleton.mp hp]; exact ⟨_, h, lx_bag _ _ _⟩
      refine ⟨_, rfl, by decide, by decide, ?_⟩
      refine for_rg (fun u σ H' => (∃ y5 y6 y7 y8 y9, σ = [some (.ref sa), some (.int (0 + (i : Int))), some (.ref b), some (.ref a), some (.ref j), y5, y6, y7, y8, y9]) ∧ ∃ x y z, BagOk (150 + 120 * u) x y z ∧ H' b = some (bagO x y z) ∧ JP A H' j es ∧ ML H' a es ∧ Keep [] H H') ⟨⟨_, _, _, _, _, rfl⟩, _, _, _, ok5, hb5, jp5, ml5, KH5⟩ ?_ ?_
      · clear ok5 hb5 jp5 ml5 KH5 ok3
        rintro u σ H8 hu ⟨⟨y5, y6, y7, y8, y9, rfl⟩, x, y, z, ok8, hb8, jp8, ml8, K8⟩
        have hu : u < 2 := hu
        have gl6 := gd.l6
        have gl1 := gd.l1
        have lg : (gsOf (mEs es)).length ≤ 6 := gs_len gd
        refine ⟨_, rfl, a, _, rfl, .inl ml8.hd, fun p1 n1 => ?_⟩
        rw [dEs_keys]
        have k9 := keep_new (o := .lst (((mEs es).map (·.1)).map V.str)) n1
        have h9 : upd H8 p1 (.lst (((mEs es).map (·.1)).map V.str)) p1 = some (.lst (((mEs es).map (·.1)).map V.str)) := upd_same
        generalize upd H8 p1 (.lst (((mEs es).map (·.1)).map V.str)) = H9 at k9 h9 ⊢
        refine ⟨(show 1 ≤ sizeLine by decide), NewS.mk fun p2 H10 n10 s10 k10 h10 => ?_⟩
        refine ⟨p1, p2, _, _, rfl, rfl, k10 _ _ h9 (by simp), h10, size_le (by rw [List.length_map, List.length_map, List.length_singleton]; omega), NewO.mk fun p3 H11 n11 k11 h11 => ?_⟩
        have K11 := (k9.trans k10).trans k11
        have hb11 := K11 _ _ hb8 (by simp)
        have ml11 := ml8.keep K11
        have n3b : p3 ≠ b := fun e => by
          have := (k9.trans k10) _ _ hb8 (by simp)
          rw [e, this] at n11
          cases n11
        refine ⟨_, rfl, _, rfl, a, _, rfl, ml11.hd, _, _, rfl, rfl, ?_⟩
        refine ⟨b, _, _, _, _, _, rfl, hb11, ok8, by omega, by rw [dEs_len]; omega, by rw [dEs_len]; rw [mEs_len] at gl6; omega, fun d x12 y12 z12 H12 d0 d1 ok12 k12 hb12 => ?_⟩
        obtain ⟨jj, rfl⟩ := Int.eq_ofNat_of_zero_le d0
        obtain ⟨ho, e1, e2⟩ := at_root ((mEs es).map (·.1)) (j := jj) (by rw [dEs_len] at d1; rw [List.length_map, mEs_len]; omega)
        refine ⟨p3, _, _, .str ho, rfl, rfl, .inl (.inl (k12 _ _ h11 (by simpa using n3b))), atI_nat e1, ?_⟩
        have jp12 := (jp8.keepM lm0 K11).keepM (bl hb11) k12
        have ml12 := ml11.keepM gd (bl hb11) k12
        have K12 : Keep [] H H12 := Keep.fresh (K8.trans K11) k12 (by simpa using fb)
        clear K11 k9 k10 k11 h9 h10 h11 n1 n10 s10 n11 k12 ml11 jp8 ml8 hb8 hb11 K8 ok8
        refine ⟨_, rfl, a, es, rfl, ml12, gd, NewO.mk fun p9 H13 n13 k13 h13 => ?_⟩
        refine ⟨(show 1 ≤ sizeLine by decide), NewS.mk fun p10 H14 n14 s14 k14 h14 => ?_⟩
        refine ⟨p9, p10, _, _, rfl, rfl, k14 _ _ h13 (by simp), h14, size_le (by rw [List.length_map, List.length_singleton]; omega), NewO.mk fun p11 H15 n15 k15 h15 => ?_⟩
        have K15 := (k13.trans k14).trans k15
        have hb15 := K15 _ _ hb12 (by simp)
        have n11b : p11 ≠ b := fun e => by
          have := (k13.trans k14) _ _ hb12 (by simp)
          rw [e, this] at n15
          cases n15
        refine ⟨_, rfl, _, rfl, _, rfl, p11, _, rfl, .inl (.inl (.inl h15)), ?_⟩
        refine ⟨b, _, _, _, _, _, rfl, hb15, ok12, by omega, by rw [List.length_append, List.length_map, List.length_singleton]; omega, by rw [List.length_append, List.length_map, List.length_singleton]; omega, fun d x16 y16 z16 H16 c0 c1 ok16 k16 hb16 => ?_⟩
        obtain ⟨i', rfl⟩ := Int.eq_ofNat_of_zero_le c0
        obtain ⟨bd, e3, e4⟩ := at_root (gsOf (mEs es)) (j := i') (by rw [List.length_append, List.length_map, List.length_singleton] at c1; omega)
        refine ⟨p11, _, _, .str bd, rfl, rfl, .inl (.inl (k16 _ _ h15 (by simpa using n11b))), atI_nat e3, ?_⟩
        have jp16 := (jp12.keepM lm0 K15).keepM (bl hb15) k16
        have ml16 := (ml12.keep K15).keepM gd (bl hb15) k16
        have K16 : Keep [] H H16 := Keep.fresh (K12.trans K15) k16 (by simpa using fb)
        refine ⟨_, rfl, _, rfl, b, a, es, _, x16, y16, z16, rfl, hb16, ok16, by omega, ml16, gd, fun s c x17 y17 z17 H17 sd17 aok ok17 k17 hb17 => ?_⟩
        have jp17 := jp16.keepM (bl hb16) k17
        have ml17 := ml16.keepM gd (bl hb16) k17
        have K17 : Keep [] H H17 := Keep.fresh K16 k17 (by simpa using fb)
        refine ⟨_, rfl, _, rfl, _, rfl, _, rfl, _, rfl, _, rfl, b, j, a, es, s, c, ho, bd, _, x17, y17, z17, rfl, hb17, ok17, by omega, jp17, ml17, gd, sd17, aok, e2, e4, fun x18 y18 z18 H18 ok18 k18 hb18 => ?_⟩
        refine ⟨true, rfl, ?_⟩
        refine ifF rfl ?_
        exact ⟨⟨_, _, _, _, _, rfl⟩, _, _, _, ok18.mono (by omega), hb18, jp17.keepM (bl hb17) k18, ml17.keepM gd (bl hb17) k18, Keep.fresh K17 k18 (by simpa using fb)⟩
      · rintro σ H8 ⟨⟨y5, y6, y7, y8, y9, rfl⟩, x, y, z, ok8, hb8, jp8, ml8, K8⟩
        exact ⟨⟨_, _, _, _, _, _, _, _, _, rfl⟩, K8⟩
    · rintro σ H1 ⟨⟨y1, y2, y3, y4, y5, y6, y7, y8, y9, rfl⟩, K1⟩
      exact q H1
end
end K26
namespace K26
open PySem PySem.Spec PyProof.Rows L2 FR TL
theorem all_mk {P : Program} {w : World} {K : PySem.W.Frag} {h : Heap} {mg : Str → Option Value} {fa : Addr} (X : K.In h) (G : h.Ns mainGlobals mg) (hfa : mg "law" = some (.ref fa))
    {O0 : Addr} {cdo0 : ClassData}
    {O1 : Addr} {cdo1 : ClassData}
    {O2 : Addr} {cdo2 : ClassData}
    {O3 : Addr} {cdo3 : ClassData}
    {f0 : Addr} {od0 an0 : Option Addr} {sl0 : Array (Option Value)} {oc0 kV0 dc0 pm0 cd0 ct0 : Value}
    {f1 : Addr} {od1 an1 : Option Addr} {sl1 : Array (Option Value)} {oc1 kV1 dc1 pm1 cd1 ct1 : Value}
    {f2 : Addr} {od2 an2 : Option Addr} {sl2 : Array (Option Value)} {oc2 kV2 dc2 pm2 cd2 ct2 : Value}
    {f3 : Addr} {od3 an3 : Option Addr} {sl3 : Array (Option Value)} {oc3 kV3 dc3 pm3 cd3 ct3 : Value}
    {f4 : Addr} {od4 an4 : Option Addr} {sl4 : Array (Option Value)} {oc4 kV4 dc4 pm4 cd4 ct4 : Value}
    {f5 : Addr} {od5 an5 : Option Addr} {sl5 : Array (Option Value)} {oc5 kV5 dc5 pm5 cd5 ct5 : Value}
    {f6 : Addr} {od6 an6 : Option Addr} {sl6 : Array (Option Value)} {oc6 kV6 dc6 pm6 cd6 ct6 : Value}
    {f7 : Addr} {od7 an7 : Option Addr} {sl7 : Array (Option Value)} {oc7 kV7 dc7 pm7 cd7 ct7 : Value}
    {f8 : Addr} {od8 an8 : Option Addr} {sl8 : Array (Option Value)} {oc8 kV8 dc8 pm8 cd8 ct8 : Value}
    {f9 : Addr} {od9 an9 : Option Addr} {sl9 : Array (Option Value)} {oc9 kV9 dc9 pm9 cd9 ct9 : Value}
    {f10 : Addr} {od10 an10 : Option Addr} {sl10 : Array (Option Value)} {oc10 kV10 dc10 pm10 cd10 ct10 : Value}
    {f11 : Addr} {od11 an11 : Option Addr} {sl11 : Array (Option Value)} {oc11 kV11 dc11 pm11 cd11 ct11 : Value}
    {f12 : Addr} {od12 an12 : Option Addr} {sl12 : Array (Option Value)} {oc12 kV12 dc12 pm12 cd12 ct12 : Value}
    {f13 : Addr} {od13 an13 : Option Addr} {sl13 : Array (Option Value)} {oc13 kV13 dc13 pm13 cd13 ct13 : Value}
    {f14 : Addr} {od14 an14 : Option Addr} {sl14 : Array (Option Value)} {oc14 kV14 dc14 pm14 cd14 ct14 : Value}
    {f15 : Addr} {od15 an15 : Option Addr} {sl15 : Array (Option Value)} {oc15 kV15 dc15 pm15 cd15 ct15 : Value}
    {f16 : Addr} {od16 an16 : Option Addr} {sl16 : Array (Option Value)} {oc16 kV16 dc16 pm16 cd16 ct16 : Value}
    {f17 : Addr} {od17 an17 : Option Addr} {sl17 : Array (Option Value)} {oc17 kV17 dc17 pm17 cd17 ct17 : Value}
    {f18 : Addr} {od18 an18 : Option Addr} {sl18 : Array (Option Value)} {oc18 kV18 dc18 pm18 cd18 ct18 : Value}
    {f19 : Addr} {od19 an19 : Option Addr} {sl19 : Array (Option Value)} {oc19 kV19 dc19 pm19 cd19 ct19 : Value}
    {f20 : Addr} {od20 an20 : Option Addr} {sl20 : Array (Option Value)} {oc20 kV20 dc20 pm20 cd20 ct20 : Value}
    {f21 : Addr} {od21 an21 : Option Addr} {sl21 : Array (Option Value)} {oc21 kV21 dc21 pm21 cd21 ct21 : Value}
    {f22 : Addr} {od22 an22 : Option Addr} {sl22 : Array (Option Value)} {oc22 kV22 dc22 pm22 cd22 ct22 : Value}
    {f23 : Addr} {od23 an23 : Option Addr} {sl23 : Array (Option Value)} {oc23 kV23 dc23 pm23 cd23 ct23 : Value}
    {f24 : Addr} {od24 an24 : Option Addr} {sl24 : Array (Option Value)} {oc24 kV24 dc24 pm24 cd24 ct24 : Value}
    {f25 : Addr} {od25 an25 : Option Addr} {sl25 : Array (Option Value)} {oc25 kV25 dc25 pm25 cd25 ct25 : Value}
    {f26 : Addr} {od26 an26 : Option Addr} {sl26 : Array (Option Value)} {oc26 kV26 dc26 pm26 cd26 ct26 : Value}
    {f27 : Addr} {od27 an27 : Option Addr} {sl27 : Array (Option Value)} {oc27 kV27 dc27 pm27 cd27 ct27 : Value}
    {f28 : Addr} {od28 an28 : Option Addr} {sl28 : Array (Option Value)} {oc28 kV28 dc28 pm28 cd28 ct28 : Value}
    {f29 : Addr} {od29 an29 : Option Addr} {sl29 : Array (Option Value)} {oc29 kV29 dc29 pm29 cd29 ct29 : Value}
    {f30 : Addr} {od30 an30 : Option Addr} {sl30 : Array (Option Value)} {oc30 kV30 dc30 pm30 cd30 ct30 : Value}
    {DT30 : Addr} {dto30 : Obj} {dti30 : List Value} {dtn30 : Nat}
    {f31 : Addr} {od31 an31 : Option Addr} {sl31 : Array (Option Value)} {oc31 kV31 dc31 pm31 cd31 ct31 : Value}
    {P31 : Addr} {pr31 : List Value}
    {f32 : Addr} {od32 an32 : Option Addr} {sl32 : Array (Option Value)} {oc32 kV32 dc32 pm32 cd32 ct32 : Value}
    {P32 : Addr} {pr32 : List Value}
    {f33 : Addr} {od33 an33 : Option Addr} {sl33 : Array (Option Value)} {oc33 kV33 dc33 pm33 cd33 ct33 : Value}
    {P33 : Addr} {pr33 : List Value}
    {f36 : Addr} {od36 an36 : Option Addr} {sl36 : Array (Option Value)} {oc36 kV36 dc36 pm36 cd36 ct36 : Value}
    {f41 : Addr} {od41 an41 : Option Addr} {sl41 : Array (Option Value)} {oc41 kV41 dc41 pm41 cd41 ct41 : Value}
    {f47 : Addr} {od47 an47 : Option Addr} {sl47 : Array (Option Value)} {oc47 dc47 pm47 cd47 ct47 : Value}
    {D47 : Addr} 
    {f48 : Addr} {od48 an48 : Option Addr} {sl48 : Array (Option Value)} {oc48 kV48 dc48 pm48 cd48 ct48 : Value}
    {f52 : Addr} {od52 an52 : Option Addr} {sl52 : Array (Option Value)} {oc52 kV52 dc52 pm52 cd52 ct52 : Value}
    {P52 : Addr} {pr52 : List Value}
    {f53 : Addr} {od53 an53 : Option Addr} {sl53 : Array (Option Value)} {oc53 kV53 dc53 pm53 cd53 ct53 : Value}
    {P53 : Addr} {pr53 : List Value}
    {f54 : Addr} {od54 an54 : Option Addr} {sl54 : Array (Option Value)} {oc54 kV54 dc54 pm54 cd54 ct54 : Value}
    {P54 : Addr} {pr54 : List Value}
    {f55 : Addr} {od55 an55 : Option Addr} {sl55 : Array (Option Value)} {oc55 kV55 dc55 pm55 cd55 ct55 : Value}
    {P55 : Addr} {pr55 : List Value}
    {f58 : Addr} {od58 an58 : Option Addr} {sl58 : Array (Option Value)} {oc58 kV58 dc58 pm58 cd58 ct58 : Value}
    {f59 : Addr} {od59 an59 : Option Addr} {sl59 : Array (Option Value)} {oc59 kV59 dc59 pm59 cd59 ct59 : Value}
    {f60 : Addr} {od60 an60 : Option Addr} {sl60 : Array (Option Value)} {oc60 kV60 dc60 pm60 cd60 ct60 : Value}
    {f71 : Addr} {od71 an71 : Option Addr} {sl71 : Array (Option Value)} {oc71 kV71 dc71 pm71 cd71 ct71 : Value}
    {f73 : Addr} {od73 an73 : Option Addr} {sl73 : Array (Option Value)} {oc73 kV73 dc73 pm73 cd73 ct73 : Value}
    {f74 : Addr} {od74 an74 : Option Addr} {sl74 : Array (Option Value)} {oc74 kV74 dc74 pm74 cd74 ct74 : Value}
    {f77 : Addr} {od77 an77 : Option Addr} {sl77 : Array (Option Value)} {oc77 kV77 dc77 pm77 cd77 ct77 : Value}
    {f81 : Addr} {od81 an81 : Option Addr} {sl81 : Array (Option Value)} {oc81 kV81 dc81 pm81 cd81 ct81 : Value}
    {f82 : Addr} {od82 an82 : Option Addr} {sl82 : Array (Option Value)} {oc82 kV82 dc82 pm82 cd82 ct82 : Value}
    {f83 : Addr} {od83 an83 : Option Addr} {sl83 : Array (Option Value)} {oc83 kV83 dc83 pm83 cd83 ct83 : Value}
    {f84 : Addr} {od84 an84 : Option Addr} {sl84 : Array (Option Value)} {oc84 kV84 dc84 pm84 cd84 ct84 : Value}
    {f85 : Addr} {od85 an85 : Option Addr} {sl85 : Array (Option Value)} {oc85 kV85 dc85 pm85 cd85 ct85 : Value}
    {tc0 : Tok}
    {tc1 : Tok}
    {tc2 : Tok}
    {KD3 : Addr} {kes3 : Array DictEntry} {ken3 : Nat} {kt3_0 : Tok} {kt3_1 : Tok} {kt3_2 : Tok} {kt3_3 : Tok} {kt3_4 : Tok} {kt3_5 : Tok} {kt3_6 : Tok} {kt3_7 : Tok} {kt3_8 : Tok} {kt3_9 : Tok} {kt3_10 : Tok} {kt3_11 : Tok} {kt3_12 : Tok} {kt3_13 : Tok} {kt3_14 : Tok} {kt3_15 : Tok}
    {KD4 : Addr} {kto4 : Obj} {kti4 : Array Value} {ktn4 : Nat}
    {tc5 : Tok}
    {KD6 : Addr} {kes6 : Array DictEntry} {ken6 : Nat} {kt6_0 : Tok} {kt6_1 : Tok} {kt6_2 : Tok} {kt6_3 : Tok} {kt6_4 : Tok} {kt6_5 : Tok}
    {tc7 : Tok}
    {tc8 : Tok}
    (oa0 : PySem.W.nsIn K mainGlobals "Rights" = some (some (.ref O0)))
    (opg0 : PySem.W.plainGet K O0 Str.empty = true)
    (ohd0 : PySem.W.hasDictIn K O0 = true)
    (opo0 : PySem.W.plainOver K O0 = true)
    (osa0 : PySem.W.findIn K (.ref O0) "__setattr__" = some (some (.builtin "object.__setattr__")))
    (omk0 : PySem.W.makesIn K O0 = true)
    (okc0 : PySem.W.keepIn K (.ref O0) = true)
    (oca0 : PySem.W.findIn K (.ref O0) "__class__" = some (some (.builtin "object.__class__")))
    (ocn0 : PySem.W.specialIn K (.builtin "object.__class__") "__get__" = some (some (.builtin "getset_descriptor.__get__")))
    (oct0 : PySem.W.takesIn K (.builtin "object.__class__") = some true)
    (ocm0 : PySem.W.mroIn K O0 (.type "object") = some true)
    (osf0 : PySem.W.selfFirst K O0 = true)
    (ocd0 : PySem.W.clsIn K O0 = some cdo0)
    (omr0 : cdo0.mro = [.ref O0, .type "object"])
    (one0 : PySem.W.findIn K (.ref O0) "__ne__" = some (some (.builtin "object.__ne__")))
    (ona_digit0 : PySem.W.findIn K (.ref O0) "_digit" = some none)
    (onfstr0 : PySem.W.notFirst K O0 (.type "str") = true)
    (ord0 : PySem.W.readsIn K O0 (.type "type") = true)
    (org0 : PySem.W.specialIn K (.ref O0) "__getattribute__" = some (some (.builtin "type.__getattribute__")))
    (oic0 : PySem.W.isClsIn K O0 = true)
    (oyt0 : PySem.W.typeIn K (.ref O0) = some (.type "type"))
    (oktstr0 : PySem.W.subIn K (.type "str") (.ref O0) = some false)
    (oa1 : PySem.W.nsIn K mainGlobals "AccessList" = some (some (.ref O1)))
    (opg1 : PySem.W.plainGet K O1 Str.empty = true)
    (ohd1 : PySem.W.hasDictIn K O1 = true)
    (opo1 : PySem.W.plainOver K O1 = true)
    (osa1 : PySem.W.findIn K (.ref O1) "__setattr__" = some (some (.builtin "object.__setattr__")))
    (omk1 : PySem.W.makesIn K O1 = true)
    (okc1 : PySem.W.keepIn K (.ref O1) = true)
    (oca1 : PySem.W.findIn K (.ref O1) "__class__" = some (some (.builtin "object.__class__")))
    (ocn1 : PySem.W.specialIn K (.builtin "object.__class__") "__get__" = some (some (.builtin "getset_descriptor.__get__")))
    (oct1 : PySem.W.takesIn K (.builtin "object.__class__") = some true)
    (ocm1 : PySem.W.mroIn K O1 (.type "object") = some true)
    (osf1 : PySem.W.selfFirst K O1 = true)
    (ocd1 : PySem.W.clsIn K O1 = some cdo1)
    (omr1 : cdo1.mro = [.ref O1, .type "object"])
    (one1 : PySem.W.findIn K (.ref O1) "__ne__" = some (some (.builtin "object.__ne__")))
    (ona_owner1 : PySem.W.findIn K (.ref O1) "_owner" = some none)
    (ona_group1 : PySem.W.findIn K (.ref O1) "_group" = some none)
    (ona_other1 : PySem.W.findIn K (.ref O1) "_other" = some none)
    (ona_users1 : PySem.W.findIn K (.ref O1) "_users" = some none)
    (ona_groups1 : PySem.W.findIn K (.ref O1) "_groups" = some none)
    (ona_mask1 : PySem.W.findIn K (.ref O1) "_mask" = some none)
    (ord1 : PySem.W.readsIn K O1 (.type "type") = true)
    (org1 : PySem.W.specialIn K (.ref O1) "__getattribute__" = some (some (.builtin "type.__getattribute__")))
    (oic1 : PySem.W.isClsIn K O1 = true)
    (oyt1 : PySem.W.typeIn K (.ref O1) = some (.type "type"))
    (oa2 : PySem.W.nsIn K mainGlobals "People" = some (some (.ref O2)))
    (opg2 : PySem.W.plainGet K O2 Str.empty = true)
    (ohd2 : PySem.W.hasDictIn K O2 = true)
    (opo2 : PySem.W.plainOver K O2 = true)
    (osa2 : PySem.W.findIn K (.ref O2) "__setattr__" = some (some (.builtin "object.__setattr__")))
    (omk2 : PySem.W.makesIn K O2 = true)
    (okc2 : PySem.W.keepIn K (.ref O2) = true)
    (oca2 : PySem.W.findIn K (.ref O2) "__class__" = some (some (.builtin "object.__class__")))
    (ocn2 : PySem.W.specialIn K (.builtin "object.__class__") "__get__" = some (some (.builtin "getset_descriptor.__get__")))
    (oct2 : PySem.W.takesIn K (.builtin "object.__class__") = some true)
    (ocm2 : PySem.W.mroIn K O2 (.type "object") = some true)
    (osf2 : PySem.W.selfFirst K O2 = true)
    (ocd2 : PySem.W.clsIn K O2 = some cdo2)
    (omr2 : cdo2.mro = [.ref O2, .type "object"])
    (one2 : PySem.W.findIn K (.ref O2) "__ne__" = some (some (.builtin "object.__ne__")))
    (ona_held2 : PySem.W.findIn K (.ref O2) "_held" = some none)
    (ona_groups2 : PySem.W.findIn K (.ref O2) "_groups" = some none)
    (ord2 : PySem.W.readsIn K O2 (.type "type") = true)
    (org2 : PySem.W.specialIn K (.ref O2) "__getattribute__" = some (some (.builtin "type.__getattribute__")))
    (oic2 : PySem.W.isClsIn K O2 = true)
    (oyt2 : PySem.W.typeIn K (.ref O2) = some (.type "type"))
    (oa3 : PySem.W.nsIn K mainGlobals "Judge" = some (some (.ref O3)))
    (opg3 : PySem.W.plainGet K O3 Str.empty = true)
    (ohd3 : PySem.W.hasDictIn K O3 = true)
    (opo3 : PySem.W.plainOver K O3 = true)
    (osa3 : PySem.W.findIn K (.ref O3) "__setattr__" = some (some (.builtin "object.__setattr__")))
    (omk3 : PySem.W.makesIn K O3 = true)
    (okc3 : PySem.W.keepIn K (.ref O3) = true)
    (oca3 : PySem.W.findIn K (.ref O3) "__class__" = some (some (.builtin "object.__class__")))
    (ocn3 : PySem.W.specialIn K (.builtin "object.__class__") "__get__" = some (some (.builtin "getset_descriptor.__get__")))
    (oct3 : PySem.W.takesIn K (.builtin "object.__class__") = some true)
    (ocm3 : PySem.W.mroIn K O3 (.type "object") = some true)
    (osf3 : PySem.W.selfFirst K O3 = true)
    (ocd3 : PySem.W.clsIn K O3 = some cdo3)
    (omr3 : cdo3.mro = [.ref O3, .type "object"])
    (one3 : PySem.W.findIn K (.ref O3) "__ne__" = some (some (.builtin "object.__ne__")))
    (ona_people3 : PySem.W.findIn K (.ref O3) "_people" = some none)
    (ord3 : PySem.W.readsIn K O3 (.type "type") = true)
    (org3 : PySem.W.specialIn K (.ref O3) "__getattribute__" = some (some (.builtin "type.__getattribute__")))
    (oic3 : PySem.W.isClsIn K O3 = true)
    (oyt3 : PySem.W.typeIn K (.ref O3) = some (.type "type"))
    (a0 : PySem.W.nsIn K mainGlobals "_wall" = some (some (.ref f0)))
    (l0 : K.lookup f0 = some ⟨oc0, od0, .func (PySem.W.fnOf "_wall" "_wall" (defArgs s__wall) (defBody s__wall) (defScope s__wall) .none kV0 dc0 pm0 an0 cd0 ct0), sl0⟩)
    (c0 : PySem.W.codeIn K cd0 "_wall" = true) (k0 : PySem.W.keepIn K (.ref f0) = true)
    (a1 : PySem.W.nsIn K mainGlobals "is_integer" = some (some (.ref f1)))
    (l1 : K.lookup f1 = some ⟨oc1, od1, .func (PySem.W.fnOf "is_integer" "is_integer" (defArgs s_is_integer) (defBody s_is_integer) (defScope s_is_integer) .none kV1 dc1 pm1 an1 cd1 ct1), sl1⟩)
    (c1 : PySem.W.codeIn K cd1 "is_integer" = true) (k1 : PySem.W.keepIn K (.ref f1) = true)
    (a2 : PySem.W.nsIn K mainGlobals "is_name" = some (some (.ref f2)))
    (l2 : K.lookup f2 = some ⟨oc2, od2, .func (PySem.W.fnOf "is_name" "is_name" (defArgs s_is_name) (defBody s_is_name) (defScope s_is_name) .none kV2 dc2 pm2 an2 cd2 ct2), sl2⟩)
    (c2 : PySem.W.codeIn K cd2 "is_name" = true) (k2 : PySem.W.keepIn K (.ref f2) = true)
    (a3 : PySem.W.nsIn K mainGlobals "is_user_name" = some (some (.ref f3)))
    (l3 : K.lookup f3 = some ⟨oc3, od3, .func (PySem.W.fnOf "is_user_name" "is_user_name" (defArgs s_is_user_name) (defBody s_is_user_name) (defScope s_is_user_name) .none kV3 dc3 pm3 an3 cd3 ct3), sl3⟩)
    (c3 : PySem.W.codeIn K cd3 "is_user_name" = true) (k3 : PySem.W.keepIn K (.ref f3) = true)
    (a4 : PySem.W.nsIn K mainGlobals "is_list" = some (some (.ref f4)))
    (l4 : K.lookup f4 = some ⟨oc4, od4, .func (PySem.W.fnOf "is_list" "is_list" (defArgs s_is_list) (defBody s_is_list) (defScope s_is_list) .none kV4 dc4 pm4 an4 cd4 ct4), sl4⟩)
    (c4 : PySem.W.codeIn K cd4 "is_list" = true) (k4 : PySem.W.keepIn K (.ref f4) = true)
    (a5 : PySem.W.nsIn K mainGlobals "as_rights" = some (some (.ref f5)))
    (l5 : K.lookup f5 = some ⟨oc5, od5, .func (PySem.W.fnOf "as_rights" "as_rights" (defArgs s_as_rights) (defBody s_as_rights) (defScope s_as_rights) .none kV5 dc5 pm5 an5 cd5 ct5), sl5⟩)
    (c5 : PySem.W.codeIn K cd5 "as_rights" = true) (k5 : PySem.W.keepIn K (.ref f5) = true)
    (a6 : PySem.W.nsIn K mainGlobals "as_digit" = some (some (.ref f6)))
    (l6 : K.lookup f6 = some ⟨oc6, od6, .func (PySem.W.fnOf "as_digit" "as_digit" (defArgs s_as_digit) (defBody s_as_digit) (defScope s_as_digit) .none kV6 dc6 pm6 an6 cd6 ct6), sl6⟩)
    (c6 : PySem.W.codeIn K cd6 "as_digit" = true) (k6 : PySem.W.keepIn K (.ref f6) = true)
    (a7 : PySem.W.nsIn K mainGlobals "_is_letters" = some (some (.ref f7)))
    (l7 : K.lookup f7 = some ⟨oc7, od7, .func (PySem.W.fnOf "_is_letters" "_is_letters" (defArgs s__is_letters) (defBody s__is_letters) (defScope s__is_letters) .none kV7 dc7 pm7 an7 cd7 ct7), sl7⟩)
    (c7 : PySem.W.codeIn K cd7 "_is_letters" = true) (k7 : PySem.W.keepIn K (.ref f7) = true)
    (a8 : PySem.W.nsIn K mainGlobals "_digit_of" = some (some (.ref f8)))
    (l8 : K.lookup f8 = some ⟨oc8, od8, .func (PySem.W.fnOf "_digit_of" "_digit_of" (defArgs s__digit_of) (defBody s__digit_of) (defScope s__digit_of) .none kV8 dc8 pm8 an8 cd8 ct8), sl8⟩)
    (c8 : PySem.W.codeIn K cd8 "_digit_of" = true) (k8 : PySem.W.keepIn K (.ref f8) = true)
    (a9 : PySem.W.nsIn K mainGlobals "_named_rights" = some (some (.ref f9)))
    (l9 : K.lookup f9 = some ⟨oc9, od9, .func (PySem.W.fnOf "_named_rights" "_named_rights" (defArgs s__named_rights) (defBody s__named_rights) (defScope s__named_rights) .none kV9 dc9 pm9 an9 cd9 ct9), sl9⟩)
    (c9 : PySem.W.codeIn K cd9 "_named_rights" = true) (k9 : PySem.W.keepIn K (.ref f9) = true)
    (a10 : PySem.W.nsIn K mainGlobals "_keys_in_order" = some (some (.ref f10)))
    (l10 : K.lookup f10 = some ⟨oc10, od10, .func (PySem.W.fnOf "_keys_in_order" "_keys_in_order" (defArgs s__keys_in_order) (defBody s__keys_in_order) (defScope s__keys_in_order) .none kV10 dc10 pm10 an10 cd10 ct10), sl10⟩)
    (c10 : PySem.W.codeIn K cd10 "_keys_in_order" = true) (k10 : PySem.W.keepIn K (.ref f10) = true)
    (a11 : PySem.W.nsIn K mainGlobals "is_owner" = some (some (.ref f11)))
    (l11 : K.lookup f11 = some ⟨oc11, od11, .func (PySem.W.fnOf "is_owner" "is_owner" (defArgs s_is_owner) (defBody s_is_owner) (defScope s_is_owner) .none kV11 dc11 pm11 an11 cd11 ct11), sl11⟩)
    (c11 : PySem.W.codeIn K cd11 "is_owner" = true) (k11 : PySem.W.keepIn K (.ref f11) = true)
    (a12 : PySem.W.nsIn K mainGlobals "is_owner_group" = some (some (.ref f12)))
    (l12 : K.lookup f12 = some ⟨oc12, od12, .func (PySem.W.fnOf "is_owner_group" "is_owner_group" (defArgs s_is_owner_group) (defBody s_is_owner_group) (defScope s_is_owner_group) .none kV12 dc12 pm12 an12 cd12 ct12), sl12⟩)
    (c12 : PySem.W.codeIn K cd12 "is_owner_group" = true) (k12 : PySem.W.keepIn K (.ref f12) = true)
    (a13 : PySem.W.nsIn K mainGlobals "_are_users" = some (some (.ref f13)))
    (l13 : K.lookup f13 = some ⟨oc13, od13, .func (PySem.W.fnOf "_are_users" "_are_users" (defArgs s__are_users) (defBody s__are_users) (defScope s__are_users) .none kV13 dc13 pm13 an13 cd13 ct13), sl13⟩)
    (c13 : PySem.W.codeIn K cd13 "_are_users" = true) (k13 : PySem.W.keepIn K (.ref f13) = true)
    (a14 : PySem.W.nsIn K mainGlobals "_are_groups" = some (some (.ref f14)))
    (l14 : K.lookup f14 = some ⟨oc14, od14, .func (PySem.W.fnOf "_are_groups" "_are_groups" (defArgs s__are_groups) (defBody s__are_groups) (defScope s__are_groups) .none kV14 dc14 pm14 an14 cd14 ct14), sl14⟩)
    (c14 : PySem.W.codeIn K cd14 "_are_groups" = true) (k14 : PySem.W.keepIn K (.ref f14) = true)
    (a15 : PySem.W.nsIn K mainGlobals "granting_digits" = some (some (.ref f15)))
    (l15 : K.lookup f15 = some ⟨oc15, od15, .func (PySem.W.fnOf "granting_digits" "granting_digits" (defArgs s_granting_digits) (defBody s_granting_digits) (defScope s_granting_digits) .none kV15 dc15 pm15 an15 cd15 ct15), sl15⟩)
    (c15 : PySem.W.codeIn K cd15 "granting_digits" = true) (k15 : PySem.W.keepIn K (.ref f15) = true)
    (a16 : PySem.W.nsIn K mainGlobals "_fitting" = some (some (.ref f16)))
    (l16 : K.lookup f16 = some ⟨oc16, od16, .func (PySem.W.fnOf "_fitting" "_fitting" (defArgs s__fitting) (defBody s__fitting) (defScope s__fitting) .none kV16 dc16 pm16 an16 cd16 ct16), sl16⟩)
    (c16 : PySem.W.codeIn K cd16 "_fitting" = true) (k16 : PySem.W.keepIn K (.ref f16) = true)
    (a17 : PySem.W.nsIn K mainGlobals "_law_cell" = some (some (.ref f17)))
    (l17 : K.lookup f17 = some ⟨oc17, od17, .func (PySem.W.fnOf "_law_cell" "_law_cell" (defArgs s_cell) (defBody s_cell) (defScope s_cell) .none kV17 dc17 pm17 an17 cd17 ct17), sl17⟩)
    (c17 : PySem.W.codeIn K cd17 "_law_cell" = true) (k17 : PySem.W.keepIn K (.ref f17) = true)
    (a18 : PySem.W.nsIn K mainGlobals "_law_bag" = some (some (.ref f18)))
    (l18 : K.lookup f18 = some ⟨oc18, od18, .func (PySem.W.fnOf "_law_bag" "_law_bag" (defArgs s_bag) (defBody s_bag) (defScope s_bag) .none kV18 dc18 pm18 an18 cd18 ct18), sl18⟩)
    (c18 : PySem.W.codeIn K cd18 "_law_bag" = true) (k18 : PySem.W.keepIn K (.ref f18) = true)
    (a19 : PySem.W.nsIn K mainGlobals "_law_take" = some (some (.ref f19)))
    (l19 : K.lookup f19 = some ⟨oc19, od19, .func (PySem.W.fnOf "_law_take" "_law_take" (defArgs s_take) (defBody s_take) (defScope s_take) .none kV19 dc19 pm19 an19 cd19 ct19), sl19⟩)
    (c19 : PySem.W.codeIn K cd19 "_law_take" = true) (k19 : PySem.W.keepIn K (.ref f19) = true)
    (a20 : PySem.W.nsIn K mainGlobals "_law_names" = some (some (.ref f20)))
    (l20 : K.lookup f20 = some ⟨oc20, od20, .func (PySem.W.fnOf "_law_names" "_law_names" (defArgs s_names) (defBody s_names) (defScope s_names) .none kV20 dc20 pm20 an20 cd20 ct20), sl20⟩)
    (c20 : PySem.W.codeIn K cd20 "_law_names" = true) (k20 : PySem.W.keepIn K (.ref f20) = true)
    (a21 : PySem.W.nsIn K mainGlobals "_law_members" = some (some (.ref f21)))
    (l21 : K.lookup f21 = some ⟨oc21, od21, .func (PySem.W.fnOf "_law_members" "_law_members" (defArgs s_members) (defBody s_members) (defScope s_members) .none kV21 dc21 pm21 an21 cd21 ct21), sl21⟩)
    (c21 : PySem.W.codeIn K cd21 "_law_members" = true) (k21 : PySem.W.keepIn K (.ref f21) = true)
    (a22 : PySem.W.nsIn K mainGlobals "_law_all_groups" = some (some (.ref f22)))
    (l22 : K.lookup f22 = some ⟨oc22, od22, .func (PySem.W.fnOf "_law_all_groups" "_law_all_groups" (defArgs s_all_groups) (defBody s_all_groups) (defScope s_all_groups) .none kV22 dc22 pm22 an22 cd22 ct22), sl22⟩)
    (c22 : PySem.W.codeIn K cd22 "_law_all_groups" = true) (k22 : PySem.W.keepIn K (.ref f22) = true)
    (a23 : PySem.W.nsIn K mainGlobals "_law_text" = some (some (.ref f23)))
    (l23 : K.lookup f23 = some ⟨oc23, od23, .func (PySem.W.fnOf "_law_text" "_law_text" (defArgs s_text) (defBody s_text) (defScope s_text) .none kV23 dc23 pm23 an23 cd23 ct23), sl23⟩)
    (c23 : PySem.W.codeIn K cd23 "_law_text" = true) (k23 : PySem.W.keepIn K (.ref f23) = true)
    (a24 : PySem.W.nsIn K mainGlobals "_law_access" = some (some (.ref f24)))
    (l24 : K.lookup f24 = some ⟨oc24, od24, .func (PySem.W.fnOf "_law_access" "_law_access" (defArgs s_access) (defBody s_access) (defScope s_access) .none kV24 dc24 pm24 an24 cd24 ct24), sl24⟩)
    (c24 : PySem.W.codeIn K cd24 "_law_access" = true) (k24 : PySem.W.keepIn K (.ref f24) = true)
    (a25 : PySem.W.nsIn K mainGlobals "_law_made" = some (some (.ref f25)))
    (l25 : K.lookup f25 = some ⟨oc25, od25, .func (PySem.W.fnOf "_law_made" "_law_made" (defArgs s_made) (defBody s_made) (defScope s_made) .none kV25 dc25 pm25 an25 cd25 ct25), sl25⟩)
    (c25 : PySem.W.codeIn K cd25 "_law_made" = true) (k25 : PySem.W.keepIn K (.ref f25) = true)
    (a26 : PySem.W.nsIn K mainGlobals "_law_case" = some (some (.ref f26)))
    (l26 : K.lookup f26 = some ⟨oc26, od26, .func (PySem.W.fnOf "_law_case" "_law_case" (defArgs s_case) (defBody s_case) (defScope s_case) .none kV26 dc26 pm26 an26 cd26 ct26), sl26⟩)
    (c26 : PySem.W.codeIn K cd26 "_law_case" = true) (k26 : PySem.W.keepIn K (.ref f26) = true)
    (a27 : PySem.W.nsIn K mainGlobals "_law_granted" = some (some (.ref f27)))
    (l27 : K.lookup f27 = some ⟨oc27, od27, .func (PySem.W.fnOf "_law_granted" "_law_granted" (defArgs s_granted) (defBody s_granted) (defScope s_granted) .none kV27 dc27 pm27 an27 cd27 ct27), sl27⟩)
    (c27 : PySem.W.codeIn K cd27 "_law_granted" = true) (k27 : PySem.W.keepIn K (.ref f27) = true)
    (a28 : PySem.W.nsIn K mainGlobals "_law_right" = some (some (.ref f28)))
    (l28 : K.lookup f28 = some ⟨oc28, od28, .func (PySem.W.fnOf "_law_right" "_law_right" (defArgs s_right) (defBody s_right) (defScope s_right) .none kV28 dc28 pm28 an28 cd28 ct28), sl28⟩)
    (c28 : PySem.W.codeIn K cd28 "_law_right" = true) (k28 : PySem.W.keepIn K (.ref f28) = true)
    (a29 : PySem.W.nsIn K mainGlobals "law" = some (some (.ref f29)))
    (l29 : K.lookup f29 = some ⟨oc29, od29, .func (PySem.W.fnOf "law" "law" (defArgs s_law) (defBody s_law) (defScope s_law) .none kV29 dc29 pm29 an29 cd29 ct29), sl29⟩)
    (c29 : PySem.W.codeIn K cd29 "law" = true) (k29 : PySem.W.keepIn K (.ref f29) = true)
    (a30 : PySem.W.findIn K (.ref O0) "__init__" = some (some (.ref f30)))
    (t30 : PySem.W.isFn K (.ref f30) = true)
    (l30 : K.lookup f30 = some ⟨oc30, od30, .func (PySem.W.fnOf "__init__" "Rights.__init__" (defArgs s_Rights___init__) (defBody s_Rights___init__) (defScope s_Rights___init__) (.ref DT30) kV30 dc30 pm30 an30 cd30 ct30), sl30⟩)
    (c30 : PySem.W.codeIn K cd30 "Rights.__init__" = true)
    (k30 : PySem.W.keepIn K (.ref f30) = true)
    (dl30 : K.lookup DT30 = some dto30)
    (dd30 : dto30.data = .seq dti30.toArray dtn30)
    (dv30 : Vals [.str ""] dti30)
    (a31 : PySem.W.findCls K (.ref O0) (.type "type") "of" = some (PySem.W.CFound.get (.builtin "classmethod.__get__") (.ref P31) .none (.ref O0)))
    (px31 : PySem.W.recIn K P31 "classmethod" = some (.ref f31 :: pr31))
    (pf31 : PySem.W.fnIn K f31 = true)
    (l31 : K.lookup f31 = some ⟨oc31, od31, .func (PySem.W.fnOf "of" "Rights.of" (defArgs s_Rights_of) (defBody s_Rights_of) (defScope s_Rights_of) .none kV31 dc31 pm31 an31 cd31 ct31), sl31⟩)
    (c31 : PySem.W.codeIn K cd31 "Rights.of" = true)
    (k31 : PySem.W.keepIn K (.ref f31) = true)
    (a32 : PySem.W.findCls K (.ref O0) (.type "type") "from_digit" = some (PySem.W.CFound.get (.builtin "classmethod.__get__") (.ref P32) .none (.ref O0)))
    (px32 : PySem.W.recIn K P32 "classmethod" = some (.ref f32 :: pr32))
    (pf32 : PySem.W.fnIn K f32 = true)
    (l32 : K.lookup f32 = some ⟨oc32, od32, .func (PySem.W.fnOf "from_digit" "Rights.from_digit" (defArgs s_Rights_from_digit) (defBody s_Rights_from_digit) (defScope s_Rights_from_digit) .none kV32 dc32 pm32 an32 cd32 ct32), sl32⟩)
    (c32 : PySem.W.codeIn K cd32 "Rights.from_digit" = true)
    (k32 : PySem.W.keepIn K (.ref f32) = true)
    (a33 : PySem.W.findIn K (.ref O0) "digit" = some (some (.ref P33)))
    (pg33 : PySem.W.specialIn K (.ref P33) "__get__" = some (some (.builtin "property.__get__")))
    (pt33 : PySem.W.takesIn K (.ref P33) = some true)
    (px33 : PySem.W.recIn K P33 "property" = some (.ref f33 :: pr33))
    (l33 : K.lookup f33 = some ⟨oc33, od33, .func (PySem.W.fnOf "digit" "Rights.digit" (defArgs s_Rights_digit) (defBody s_Rights_digit) (defScope s_Rights_digit) .none kV33 dc33 pm33 an33 cd33 ct33), sl33⟩)
    (c33 : PySem.W.codeIn K cd33 "Rights.digit" = true)
    (k33 : PySem.W.keepIn K (.ref f33) = true)
    (a36 : PySem.W.findIn K (.ref O0) "__or__" = some (some (.ref f36)))
    (t36 : PySem.W.isFn K (.ref f36) = true)
    (l36 : K.lookup f36 = some ⟨oc36, od36, .func (PySem.W.fnOf "__or__" "Rights.__or__" (defArgs s_Rights___or__) (defBody s_Rights___or__) (defScope s_Rights___or__) .none kV36 dc36 pm36 an36 cd36 ct36), sl36⟩)
    (c36 : PySem.W.codeIn K cd36 "Rights.__or__" = true)
    (k36 : PySem.W.keepIn K (.ref f36) = true)
    (a41 : PySem.W.findIn K (.ref O0) "__eq__" = some (some (.ref f41)))
    (t41 : PySem.W.isFn K (.ref f41) = true)
    (l41 : K.lookup f41 = some ⟨oc41, od41, .func (PySem.W.fnOf "__eq__" "Rights.__eq__" (defArgs s_Rights___eq__) (defBody s_Rights___eq__) (defScope s_Rights___eq__) .none kV41 dc41 pm41 an41 cd41 ct41), sl41⟩)
    (c41 : PySem.W.codeIn K cd41 "Rights.__eq__" = true)
    (k41 : PySem.W.keepIn K (.ref f41) = true)
    (a47 : PySem.W.findIn K (.ref O1) "__init__" = some (some (.ref f47)))
    (t47 : PySem.W.isFn K (.ref f47) = true)
    (l47 : K.lookup f47 = some ⟨oc47, od47, .func (PySem.W.fnOf "__init__" "AccessList.__init__" (defArgs s_AccessList___init__) (defBody s_AccessList___init__) (defScope s_AccessList___init__) .none (.ref D47) dc47 pm47 an47 cd47 ct47), sl47⟩)
    (c47 : PySem.W.codeIn K cd47 "AccessList.__init__" = true)
    (k47 : PySem.W.keepIn K (.ref f47) = true)
    (w47_0 : PySem.W.nsIn K D47 "users" = some (some .none))
    (w47_1 : PySem.W.nsIn K D47 "groups" = some (some .none))
    (w47_2 : PySem.W.nsIn K D47 "mask" = some (some .none))
    (a48 : PySem.W.findIn K (.ref O1) "_first_mask" = some (some (.ref f48)))
    (t48 : PySem.W.isFn K (.ref f48) = true)
    (l48 : K.lookup f48 = some ⟨oc48, od48, .func (PySem.W.fnOf "_first_mask" "AccessList._first_mask" (defArgs s_AccessList__first_mask) (defBody s_AccessList__first_mask) (defScope s_AccessList__first_mask) .none kV48 dc48 pm48 an48 cd48 ct48), sl48⟩)
    (c48 : PySem.W.codeIn K cd48 "AccessList._first_mask" = true)
    (k48 : PySem.W.keepIn K (.ref f48) = true)
    (a52 : PySem.W.findIn K (.ref O1) "owner" = some (some (.ref P52)))
    (pg52 : PySem.W.specialIn K (.ref P52) "__get__" = some (some (.builtin "property.__get__")))
    (pt52 : PySem.W.takesIn K (.ref P52) = some true)
    (px52 : PySem.W.recIn K P52 "property" = some (.ref f52 :: pr52))
    (l52 : K.lookup f52 = some ⟨oc52, od52, .func (PySem.W.fnOf "owner" "AccessList.owner" (defArgs s_AccessList_owner) (defBody s_AccessList_owner) (defScope s_AccessList_owner) .none kV52 dc52 pm52 an52 cd52 ct52), sl52⟩)
    (c52 : PySem.W.codeIn K cd52 "AccessList.owner" = true)
    (k52 : PySem.W.keepIn K (.ref f52) = true)
    (a53 : PySem.W.findIn K (.ref O1) "group" = some (some (.ref P53)))
    (pg53 : PySem.W.specialIn K (.ref P53) "__get__" = some (some (.builtin "property.__get__")))
    (pt53 : PySem.W.takesIn K (.ref P53) = some true)
    (px53 : PySem.W.recIn K P53 "property" = some (.ref f53 :: pr53))
    (l53 : K.lookup f53 = some ⟨oc53, od53, .func (PySem.W.fnOf "group" "AccessList.group" (defArgs s_AccessList_group) (defBody s_AccessList_group) (defScope s_AccessList_group) .none kV53 dc53 pm53 an53 cd53 ct53), sl53⟩)
    (c53 : PySem.W.codeIn K cd53 "AccessList.group" = true)
    (k53 : PySem.W.keepIn K (.ref f53) = true)
    (a54 : PySem.W.findIn K (.ref O1) "other" = some (some (.ref P54)))
    (pg54 : PySem.W.specialIn K (.ref P54) "__get__" = some (some (.builtin "property.__get__")))
    (pt54 : PySem.W.takesIn K (.ref P54) = some true)
    (px54 : PySem.W.recIn K P54 "property" = some (.ref f54 :: pr54))
    (l54 : K.lookup f54 = some ⟨oc54, od54, .func (PySem.W.fnOf "other" "AccessList.other" (defArgs s_AccessList_other) (defBody s_AccessList_other) (defScope s_AccessList_other) .none kV54 dc54 pm54 an54 cd54 ct54), sl54⟩)
    (c54 : PySem.W.codeIn K cd54 "AccessList.other" = true)
    (k54 : PySem.W.keepIn K (.ref f54) = true)
    (a55 : PySem.W.findIn K (.ref O1) "mask" = some (some (.ref P55)))
    (pg55 : PySem.W.specialIn K (.ref P55) "__get__" = some (some (.builtin "property.__get__")))
    (pt55 : PySem.W.takesIn K (.ref P55) = some true)
    (px55 : PySem.W.recIn K P55 "property" = some (.ref f55 :: pr55))
    (l55 : K.lookup f55 = some ⟨oc55, od55, .func (PySem.W.fnOf "mask" "AccessList.mask" (defArgs s_AccessList_mask) (defBody s_AccessList_mask) (defScope s_AccessList_mask) .none kV55 dc55 pm55 an55 cd55 ct55), sl55⟩)
    (c55 : PySem.W.codeIn K cd55 "AccessList.mask" = true)
    (k55 : PySem.W.keepIn K (.ref f55) = true)
    (a58 : PySem.W.findIn K (.ref O1) "users" = some (some (.ref f58)))
    (t58 : PySem.W.isFn K (.ref f58) = true)
    (l58 : K.lookup f58 = some ⟨oc58, od58, .func (PySem.W.fnOf "users" "AccessList.users" (defArgs s_AccessList_users) (defBody s_AccessList_users) (defScope s_AccessList_users) .none kV58 dc58 pm58 an58 cd58 ct58), sl58⟩)
    (c58 : PySem.W.codeIn K cd58 "AccessList.users" = true)
    (k58 : PySem.W.keepIn K (.ref f58) = true)
    (a59 : PySem.W.findIn K (.ref O1) "groups" = some (some (.ref f59)))
    (t59 : PySem.W.isFn K (.ref f59) = true)
    (l59 : K.lookup f59 = some ⟨oc59, od59, .func (PySem.W.fnOf "groups" "AccessList.groups" (defArgs s_AccessList_groups) (defBody s_AccessList_groups) (defScope s_AccessList_groups) .none kV59 dc59 pm59 an59 cd59 ct59), sl59⟩)
    (c59 : PySem.W.codeIn K cd59 "AccessList.groups" = true)
    (k59 : PySem.W.keepIn K (.ref f59) = true)
    (a60 : PySem.W.findIn K (.ref O1) "entries" = some (some (.ref f60)))
    (t60 : PySem.W.isFn K (.ref f60) = true)
    (l60 : K.lookup f60 = some ⟨oc60, od60, .func (PySem.W.fnOf "entries" "AccessList.entries" (defArgs s_AccessList_entries) (defBody s_AccessList_entries) (defScope s_AccessList_entries) .none kV60 dc60 pm60 an60 cd60 ct60), sl60⟩)
    (c60 : PySem.W.codeIn K cd60 "AccessList.entries" = true)
    (k60 : PySem.W.keepIn K (.ref f60) = true)
    (a71 : PySem.W.findIn K (.ref O2) "__init__" = some (some (.ref f71)))
    (t71 : PySem.W.isFn K (.ref f71) = true)
    (l71 : K.lookup f71 = some ⟨oc71, od71, .func (PySem.W.fnOf "__init__" "People.__init__" (defArgs s_People___init__) (defBody s_People___init__) (defScope s_People___init__) .none kV71 dc71 pm71 an71 cd71 ct71), sl71⟩)
    (c71 : PySem.W.codeIn K cd71 "People.__init__" = true)
    (k71 : PySem.W.keepIn K (.ref f71) = true)
    (a73 : PySem.W.findIn K (.ref O2) "groups" = some (some (.ref f73)))
    (t73 : PySem.W.isFn K (.ref f73) = true)
    (l73 : K.lookup f73 = some ⟨oc73, od73, .func (PySem.W.fnOf "groups" "People.groups" (defArgs s_People_groups) (defBody s_People_groups) (defScope s_People_groups) .none kV73 dc73 pm73 an73 cd73 ct73), sl73⟩)
    (c73 : PySem.W.codeIn K cd73 "People.groups" = true)
    (k73 : PySem.W.keepIn K (.ref f73) = true)
    (a74 : PySem.W.findIn K (.ref O2) "groups_of" = some (some (.ref f74)))
    (t74 : PySem.W.isFn K (.ref f74) = true)
    (l74 : K.lookup f74 = some ⟨oc74, od74, .func (PySem.W.fnOf "groups_of" "People.groups_of" (defArgs s_People_groups_of) (defBody s_People_groups_of) (defScope s_People_groups_of) .none kV74 dc74 pm74 an74 cd74 ct74), sl74⟩)
    (c74 : PySem.W.codeIn K cd74 "People.groups_of" = true)
    (k74 : PySem.W.keepIn K (.ref f74) = true)
    (a77 : PySem.W.findIn K (.ref O2) "__contains__" = some (some (.ref f77)))
    (t77 : PySem.W.isFn K (.ref f77) = true)
    (l77 : K.lookup f77 = some ⟨oc77, od77, .func (PySem.W.fnOf "__contains__" "People.__contains__" (defArgs s_People___contains__) (defBody s_People___contains__) (defScope s_People___contains__) .none kV77 dc77 pm77 an77 cd77 ct77), sl77⟩)
    (c77 : PySem.W.codeIn K cd77 "People.__contains__" = true)
    (k77 : PySem.W.keepIn K (.ref f77) = true)
    (a81 : PySem.W.findIn K (.ref O3) "__init__" = some (some (.ref f81)))
    (t81 : PySem.W.isFn K (.ref f81) = true)
    (l81 : K.lookup f81 = some ⟨oc81, od81, .func (PySem.W.fnOf "__init__" "Judge.__init__" (defArgs s_Judge___init__) (defBody s_Judge___init__) (defScope s_Judge___init__) .none kV81 dc81 pm81 an81 cd81 ct81), sl81⟩)
    (c81 : PySem.W.codeIn K cd81 "Judge.__init__" = true)
    (k81 : PySem.W.keepIn K (.ref f81) = true)
    (a82 : PySem.W.findIn K (.ref O3) "__call__" = some (some (.ref f82)))
    (t82 : PySem.W.isFn K (.ref f82) = true)
    (l82 : K.lookup f82 = some ⟨oc82, od82, .func (PySem.W.fnOf "__call__" "Judge.__call__" (defArgs s_Judge___call__) (defBody s_Judge___call__) (defScope s_Judge___call__) .none kV82 dc82 pm82 an82 cd82 ct82), sl82⟩)
    (c82 : PySem.W.codeIn K cd82 "Judge.__call__" = true)
    (k82 : PySem.W.keepIn K (.ref f82) = true)
    (a83 : PySem.W.findIn K (.ref O3) "deciding" = some (some (.ref f83)))
    (t83 : PySem.W.isFn K (.ref f83) = true)
    (l83 : K.lookup f83 = some ⟨oc83, od83, .func (PySem.W.fnOf "deciding" "Judge.deciding" (defArgs s_Judge_deciding) (defBody s_Judge_deciding) (defScope s_Judge_deciding) .none kV83 dc83 pm83 an83 cd83 ct83), sl83⟩)
    (c83 : PySem.W.codeIn K cd83 "Judge.deciding" = true)
    (k83 : PySem.W.keepIn K (.ref f83) = true)
    (a84 : PySem.W.findIn K (.ref O3) "letters_of" = some (some (.ref f84)))
    (t84 : PySem.W.isFn K (.ref f84) = true)
    (l84 : K.lookup f84 = some ⟨oc84, od84, .func (PySem.W.fnOf "letters_of" "Judge.letters_of" (defArgs s_Judge_letters_of) (defBody s_Judge_letters_of) (defScope s_Judge_letters_of) .none kV84 dc84 pm84 an84 cd84 ct84), sl84⟩)
    (c84 : PySem.W.codeIn K cd84 "Judge.letters_of" = true)
    (k84 : PySem.W.keepIn K (.ref f84) = true)
    (a85 : PySem.W.findIn K (.ref O3) "_check" = some (some (.ref f85)))
    (t85 : PySem.W.isFn K (.ref f85) = true)
    (l85 : K.lookup f85 = some ⟨oc85, od85, .func (PySem.W.fnOf "_check" "Judge._check" (defArgs s_Judge__check) (defBody s_Judge__check) (defScope s_Judge__check) .none kV85 dc85 pm85 an85 cd85 ct85), sl85⟩)
    (c85 : PySem.W.codeIn K cd85 "Judge._check" = true)
    (k85 : PySem.W.keepIn K (.ref f85) = true)
    (q0 : PySem.W.nsIn K mainGlobals "LONGEST_NAME" = some (some (.int 8 tc0)))
    (q1 : PySem.W.nsIn K mainGlobals "LETTERS" = some (some (.str "rwx" tc1)))
    (q2 : PySem.W.nsIn K mainGlobals "ALL_DIGIT" = some (some (.int 7 tc2)))
    (q3 : PySem.W.nsIn K mainGlobals "DIGITS" = some (some (.ref KD3)))
    (kl3 : K.lookup KD3 = some ⟨.type "dict", none, .dict kes3 ken3, #[]⟩)
    (ky3 : PySem.W.KeysLit w.params kes3.toList)
    (ks3 : (KD3 == sysModules) = false)
    (kv3_0 : PySem.W.nsIn K KD3 "" = some (some (.int 0 kt3_0)))
    (kv3_1 : PySem.W.nsIn K KD3 "x" = some (some (.int 1 kt3_1)))
    (kv3_2 : PySem.W.nsIn K KD3 "w" = some (some (.int 2 kt3_2)))
    (kv3_3 : PySem.W.nsIn K KD3 "wx" = some (some (.int 3 kt3_3)))
    (kv3_4 : PySem.W.nsIn K KD3 "xw" = some (some (.int 3 kt3_4)))
    (kv3_5 : PySem.W.nsIn K KD3 "r" = some (some (.int 4 kt3_5)))
    (kv3_6 : PySem.W.nsIn K KD3 "rx" = some (some (.int 5 kt3_6)))
    (kv3_7 : PySem.W.nsIn K KD3 "xr" = some (some (.int 5 kt3_7)))
    (kv3_8 : PySem.W.nsIn K KD3 "rw" = some (some (.int 6 kt3_8)))
    (kv3_9 : PySem.W.nsIn K KD3 "wr" = some (some (.int 6 kt3_9)))
    (kv3_10 : PySem.W.nsIn K KD3 "rwx" = some (some (.int 7 kt3_10)))
    (kv3_11 : PySem.W.nsIn K KD3 "rxw" = some (some (.int 7 kt3_11)))
    (kv3_12 : PySem.W.nsIn K KD3 "wrx" = some (some (.int 7 kt3_12)))
    (kv3_13 : PySem.W.nsIn K KD3 "wxr" = some (some (.int 7 kt3_13)))
    (kv3_14 : PySem.W.nsIn K KD3 "xrw" = some (some (.int 7 kt3_14)))
    (kv3_15 : PySem.W.nsIn K KD3 "xwr" = some (some (.int 7 kt3_15)))
    (q4 : PySem.W.nsIn K mainGlobals "WORDS" = some (some (.ref KD4)))
    (kl4 : K.lookup KD4 = some kto4)
    (ku4 : kto4.cls = .type "tuple")
    (kd4 : kto4.data = .seq kti4 ktn4)
    (kz4 : kti4.size ≤ sizeLine)
    (kv4 : Vals [.str "", .str "x", .str "w", .str "wx", .str "r", .str "rx", .str "rw", .str "rwx"] kti4.toList)
    (q5 : PySem.W.nsIn K mainGlobals "MOST_NAMED" = some (some (.int 6 tc5)))
    (q6 : PySem.W.nsIn K mainGlobals "KIND_SIGNS" = some (some (.ref KD6)))
    (kl6 : K.lookup KD6 = some ⟨.type "dict", none, .dict kes6 ken6, #[]⟩)
    (ky6 : PySem.W.KeysLit w.params kes6.toList)
    (ks6 : (KD6 == sysModules) = false)
    (kv6_0 : PySem.W.nsIn K KD6 "owner" = some (some (.str "u" kt6_0)))
    (kv6_1 : PySem.W.nsIn K KD6 "user" = some (some (.str "u" kt6_1)))
    (kv6_2 : PySem.W.nsIn K KD6 "group" = some (some (.str "g" kt6_2)))
    (kv6_3 : PySem.W.nsIn K KD6 "named" = some (some (.str "g" kt6_3)))
    (kv6_4 : PySem.W.nsIn K KD6 "mask" = some (some (.str "m" kt6_4)))
    (kv6_5 : PySem.W.nsIn K KD6 "other" = some (some (.str "o" kt6_5)))
    (q7 : PySem.W.nsIn K mainGlobals "MOST_USERS" = some (some (.int 6 tc7)))
    (q8 : PySem.W.nsIn K mainGlobals "MOST_GROUPS" = some (some (.int 6 tc8)))
    (z0 : PySem.W.nsIn K mainGlobals "all" = some none)
    (z1 : PySem.W.nsIn K mainGlobals "any" = some none)
    (z2 : PySem.W.nsIn K mainGlobals "bool" = some none)
    (z3 : PySem.W.nsIn K mainGlobals "dict" = some none)
    (z4 : PySem.W.nsIn K mainGlobals "int" = some none)
    (z5 : PySem.W.nsIn K mainGlobals "isinstance" = some none)
    (z6 : PySem.W.nsIn K mainGlobals "len" = some none)
    (z7 : PySem.W.nsIn K mainGlobals "list" = some none)
    (z8 : PySem.W.nsIn K mainGlobals "max" = some none)
    (z9 : PySem.W.nsIn K mainGlobals "min" = some none)
    (z10 : PySem.W.nsIn K mainGlobals "range" = some none)
    (z11 : PySem.W.nsIn K mainGlobals "set" = some none)
    (z12 : PySem.W.nsIn K mainGlobals "sorted" = some none)
    (z13 : PySem.W.nsIn K mainGlobals "str" = some none)
    (z14 : PySem.W.nsIn K mainGlobals "sum" = some none)
    (z15 : PySem.W.nsIn K mainGlobals "tuple" = some none) :
    ∃ fd : FuncData, (∀ (s : Shared) (v : Value), BindsTo s fd ⟨[v], []⟩ [("_law_script", v)]) ∧ ∀ base : Heap, K.In base → base.Ns mainGlobals mg → FnOk P w K mg base CX0 13 fa fd ["_law_script"] (spLaw K) := by
  have e := hfa.symm.trans (PySem.W.mg_of X G a29)
  cases e
  let A : Ads := {
    C_Rights := O0
    C_AccessList := O1
    C_People := O2
    C_Judge := O3
    f__wall := f0
    d__wall := PySem.W.fnOf "_wall" "_wall" (defArgs s__wall) (defBody s__wall) (defScope s__wall) .none kV0 dc0 pm0 an0 cd0 ct0
    f_is_integer := f1
    d_is_integer := PySem.W.fnOf "is_integer" "is_integer" (defArgs s_is_integer) (defBody s_is_integer) (defScope s_is_integer) .none kV1 dc1 pm1 an1 cd1 ct1
    f_is_name := f2
    d_is_name := PySem.W.fnOf "is_name" "is_name" (defArgs s_is_name) (defBody s_is_name) (defScope s_is_name) .none kV2 dc2 pm2 an2 cd2 ct2
    f_is_user_name := f3
    d_is_user_name := PySem.W.fnOf "is_user_name" "is_user_name" (defArgs s_is_user_name) (defBody s_is_user_name) (defScope s_is_user_name) .none kV3 dc3 pm3 an3 cd3 ct3
    f_is_list := f4
    d_is_list := PySem.W.fnOf "is_list" "is_list" (defArgs s_is_list) (defBody s_is_list) (defScope s_is_list) .none kV4 dc4 pm4 an4 cd4 ct4
    f_as_rights := f5
    d_as_rights := PySem.W.fnOf "as_rights" "as_rights" (defArgs s_as_rights) (defBody s_as_rights) (defScope s_as_rights) .none kV5 dc5 pm5 an5 cd5 ct5
    f_as_digit := f6
    d_as_digit := PySem.W.fnOf "as_digit" "as_digit" (defArgs s_as_digit) (defBody s_as_digit) (defScope s_as_digit) .none kV6 dc6 pm6 an6 cd6 ct6
    f__is_letters := f7
    d__is_letters := PySem.W.fnOf "_is_letters" "_is_letters" (defArgs s__is_letters) (defBody s__is_letters) (defScope s__is_letters) .none kV7 dc7 pm7 an7 cd7 ct7
    f__digit_of := f8
    d__digit_of := PySem.W.fnOf "_digit_of" "_digit_of" (defArgs s__digit_of) (defBody s__digit_of) (defScope s__digit_of) .none kV8 dc8 pm8 an8 cd8 ct8
    f__named_rights := f9
    d__named_rights := PySem.W.fnOf "_named_rights" "_named_rights" (defArgs s__named_rights) (defBody s__named_rights) (defScope s__named_rights) .none kV9 dc9 pm9 an9 cd9 ct9
    f__keys_in_order := f10
    d__keys_in_order := PySem.W.fnOf "_keys_in_order" "_keys_in_order" (defArgs s__keys_in_order) (defBody s__keys_in_order) (defScope s__keys_in_order) .none kV10 dc10 pm10 an10 cd10 ct10
    f_is_owner := f11
    d_is_owner := PySem.W.fnOf "is_owner" "is_owner" (defArgs s_is_owner) (defBody s_is_owner) (defScope s_is_owner) .none kV11 dc11 pm11 an11 cd11 ct11
    f_is_owner_group := f12
    d_is_owner_group := PySem.W.fnOf "is_owner_group" "is_owner_group" (defArgs s_is_owner_group) (defBody s_is_owner_group) (defScope s_is_owner_group) .none kV12 dc12 pm12 an12 cd12 ct12
    f__are_users := f13
    d__are_users := PySem.W.fnOf "_are_users" "_are_users" (defArgs s__are_users) (defBody s__are_users) (defScope s__are_users) .none kV13 dc13 pm13 an13 cd13 ct13
    f__are_groups := f14
    d__are_groups := PySem.W.fnOf "_are_groups" "_are_groups" (defArgs s__are_groups) (defBody s__are_groups) (defScope s__are_groups) .none kV14 dc14 pm14 an14 cd14 ct14
    f_granting_digits := f15
    d_granting_digits := PySem.W.fnOf "granting_digits" "granting_digits" (defArgs s_granting_digits) (defBody s_granting_digits) (defScope s_granting_digits) .none kV15 dc15 pm15 an15 cd15 ct15
    f__fitting := f16
    d__fitting := PySem.W.fnOf "_fitting" "_fitting" (defArgs s__fitting) (defBody s__fitting) (defScope s__fitting) .none kV16 dc16 pm16 an16 cd16 ct16
    f_cell := f17
    d_cell := PySem.W.fnOf "_law_cell" "_law_cell" (defArgs s_cell) (defBody s_cell) (defScope s_cell) .none kV17 dc17 pm17 an17 cd17 ct17
    f_bag := f18
    d_bag := PySem.W.fnOf "_law_bag" "_law_bag" (defArgs s_bag) (defBody s_bag) (defScope s_bag) .none kV18 dc18 pm18 an18 cd18 ct18
    f_take := f19
    d_take := PySem.W.fnOf "_law_take" "_law_take" (defArgs s_take) (defBody s_take) (defScope s_take) .none kV19 dc19 pm19 an19 cd19 ct19
    f_names := f20
    d_names := PySem.W.fnOf "_law_names" "_law_names" (defArgs s_names) (defBody s_names) (defScope s_names) .none kV20 dc20 pm20 an20 cd20 ct20
    f_members := f21
    d_members := PySem.W.fnOf "_law_members" "_law_members" (defArgs s_members) (defBody s_members) (defScope s_members) .none kV21 dc21 pm21 an21 cd21 ct21
    f_all_groups := f22
    d_all_groups := PySem.W.fnOf "_law_all_groups" "_law_all_groups" (defArgs s_all_groups) (defBody s_all_groups) (defScope s_all_groups) .none kV22 dc22 pm22 an22 cd22 ct22
    f_text := f23
    d_text := PySem.W.fnOf "_law_text" "_law_text" (defArgs s_text) (defBody s_text) (defScope s_text) .none kV23 dc23 pm23 an23 cd23 ct23
    f_access := f24
    d_access := PySem.W.fnOf "_law_access" "_law_access" (defArgs s_access) (defBody s_access) (defScope s_access) .none kV24 dc24 pm24 an24 cd24 ct24
    f_made := f25
    d_made := PySem.W.fnOf "_law_made" "_law_made" (defArgs s_made) (defBody s_made) (defScope s_made) .none kV25 dc25 pm25 an25 cd25 ct25
    f_case := f26
    d_case := PySem.W.fnOf "_law_case" "_law_case" (defArgs s_case) (defBody s_case) (defScope s_case) .none kV26 dc26 pm26 an26 cd26 ct26
    f_granted := f27
    d_granted := PySem.W.fnOf "_law_granted" "_law_granted" (defArgs s_granted) (defBody s_granted) (defScope s_granted) .none kV27 dc27 pm27 an27 cd27 ct27
    f_right := f28
    d_right := PySem.W.fnOf "_law_right" "_law_right" (defArgs s_right) (defBody s_right) (defScope s_right) .none kV28 dc28 pm28 an28 cd28 ct28
    f_law := fa
    d_law := PySem.W.fnOf "law" "law" (defArgs s_law) (defBody s_law) (defScope s_law) .none kV29 dc29 pm29 an29 cd29 ct29
    f_Rights___init__ := f30
    d_Rights___init__ := PySem.W.fnOf "__init__" "Rights.__init__" (defArgs s_Rights___init__) (defBody s_Rights___init__) (defScope s_Rights___init__) (.ref DT30) kV30 dc30 pm30 an30 cd30 ct30
    f_Rights_of := f31
    d_Rights_of := PySem.W.fnOf "of" "Rights.of" (defArgs s_Rights_of) (defBody s_Rights_of) (defScope s_Rights_of) .none kV31 dc31 pm31 an31 cd31 ct31
    P_Rights_of := P31
    f_Rights_from_digit := f32
    d_Rights_from_digit := PySem.W.fnOf "from_digit" "Rights.from_digit" (defArgs s_Rights_from_digit) (defBody s_Rights_from_digit) (defScope s_Rights_from_digit) .none kV32 dc32 pm32 an32 cd32 ct32
    P_Rights_from_digit := P32
    f_Rights_digit := f33
    d_Rights_digit := PySem.W.fnOf "digit" "Rights.digit" (defArgs s_Rights_digit) (defBody s_Rights_digit) (defScope s_Rights_digit) .none kV33 dc33 pm33 an33 cd33 ct33
    P_Rights_digit := P33
    f_Rights___or__ := f36
    d_Rights___or__ := PySem.W.fnOf "__or__" "Rights.__or__" (defArgs s_Rights___or__) (defBody s_Rights___or__) (defScope s_Rights___or__) .none kV36 dc36 pm36 an36 cd36 ct36
    f_Rights___eq__ := f41
    d_Rights___eq__ := PySem.W.fnOf "__eq__" "Rights.__eq__" (defArgs s_Rights___eq__) (defBody s_Rights___eq__) (defScope s_Rights___eq__) .none kV41 dc41 pm41 an41 cd41 ct41
    f_AccessList___init__ := f47
    d_AccessList___init__ := PySem.W.fnOf "__init__" "AccessList.__init__" (defArgs s_AccessList___init__) (defBody s_AccessList___init__) (defScope s_AccessList___init__) .none (.ref D47) dc47 pm47 an47 cd47 ct47
    f_AccessList__first_mask := f48
    d_AccessList__first_mask := PySem.W.fnOf "_first_mask" "AccessList._first_mask" (defArgs s_AccessList__first_mask) (defBody s_AccessList__first_mask) (defScope s_AccessList__first_mask) .none kV48 dc48 pm48 an48 cd48 ct48
    f_AccessList_owner := f52
    d_AccessList_owner := PySem.W.fnOf "owner" "AccessList.owner" (defArgs s_AccessList_owner) (defBody s_AccessList_owner) (defScope s_AccessList_owner) .none kV52 dc52 pm52 an52 cd52 ct52
    P_AccessList_owner := P52
    f_AccessList_group := f53
    d_AccessList_group := PySem.W.fnOf "group" "AccessList.group" (defArgs s_AccessList_group) (defBody s_AccessList_group) (defScope s_AccessList_group) .none kV53 dc53 pm53 an53 cd53 ct53
    P_AccessList_group := P53
    f_AccessList_other := f54
    d_AccessList_other := PySem.W.fnOf "other" "AccessList.other" (defArgs s_AccessList_other) (defBody s_AccessList_other) (defScope s_AccessList_other) .none kV54 dc54 pm54 an54 cd54 ct54
    P_AccessList_other := P54
    f_AccessList_mask := f55
    d_AccessList_mask := PySem.W.fnOf "mask" "AccessList.mask" (defArgs s_AccessList_mask) (defBody s_AccessList_mask) (defScope s_AccessList_mask) .none kV55 dc55 pm55 an55 cd55 ct55
    P_AccessList_mask := P55
    f_AccessList_users := f58
    d_AccessList_users := PySem.W.fnOf "users" "AccessList.users" (defArgs s_AccessList_users) (defBody s_AccessList_users) (defScope s_AccessList_users) .none kV58 dc58 pm58 an58 cd58 ct58
    f_AccessList_groups := f59
    d_AccessList_groups := PySem.W.fnOf "groups" "AccessList.groups" (defArgs s_AccessList_groups) (defBody s_AccessList_groups) (defScope s_AccessList_groups) .none kV59 dc59 pm59 an59 cd59 ct59
    f_AccessList_entries := f60
    d_AccessList_entries := PySem.W.fnOf "entries" "AccessList.entries" (defArgs s_AccessList_entries) (defBody s_AccessList_entries) (defScope s_AccessList_entries) .none kV60 dc60 pm60 an60 cd60 ct60
    f_People___init__ := f71
    d_People___init__ := PySem.W.fnOf "__init__" "People.__init__" (defArgs s_People___init__) (defBody s_People___init__) (defScope s_People___init__) .none kV71 dc71 pm71 an71 cd71 ct71
    f_People_groups := f73
    d_People_groups := PySem.W.fnOf "groups" "People.groups" (defArgs s_People_groups) (defBody s_People_groups) (defScope s_People_groups) .none kV73 dc73 pm73 an73 cd73 ct73
    f_People_groups_of := f74
    d_People_groups_of := PySem.W.fnOf "groups_of" "People.groups_of" (defArgs s_People_groups_of) (defBody s_People_groups_of) (defScope s_People_groups_of) .none kV74 dc74 pm74 an74 cd74 ct74
    f_People___contains__ := f77
    d_People___contains__ := PySem.W.fnOf "__contains__" "People.__contains__" (defArgs s_People___contains__) (defBody s_People___contains__) (defScope s_People___contains__) .none kV77 dc77 pm77 an77 cd77 ct77
    f_Judge___init__ := f81
    d_Judge___init__ := PySem.W.fnOf "__init__" "Judge.__init__" (defArgs s_Judge___init__) (defBody s_Judge___init__) (defScope s_Judge___init__) .none kV81 dc81 pm81 an81 cd81 ct81
    f_Judge___call__ := f82
    d_Judge___call__ := PySem.W.fnOf "__call__" "Judge.__call__" (defArgs s_Judge___call__) (defBody s_Judge___call__) (defScope s_Judge___call__) .none kV82 dc82 pm82 an82 cd82 ct82
    f_Judge_deciding := f83
    d_Judge_deciding := PySem.W.fnOf "deciding" "Judge.deciding" (defArgs s_Judge_deciding) (defBody s_Judge_deciding) (defScope s_Judge_deciding) .none kV83 dc83 pm83 an83 cd83 ct83
    f_Judge_letters_of := f84
    d_Judge_letters_of := PySem.W.fnOf "letters_of" "Judge.letters_of" (defArgs s_Judge_letters_of) (defBody s_Judge_letters_of) (defScope s_Judge_letters_of) .none kV84 dc84 pm84 an84 cd84 ct84
    f_Judge__check := f85
    d_Judge__check := PySem.W.fnOf "_check" "Judge._check" (defArgs s_Judge__check) (defBody s_Judge__check) (defScope s_Judge__check) .none kV85 dc85 pm85 an85 cd85 ct85
    K_DIGITS := KD3
    K_WORDS := KD4
    K_KIND_SIGNS := KD6 }
  have T : Txt w K mg A := {
    cr_Rights := ⟨ord0, org0⟩
    gC_Rights := PySem.W.mg_of X G oa0
    c_Rights := ⟨_, PySem.W.mg_of X G oa0, rfl⟩
    cl_Rights := ⟨opg0, ohd0, opo0, osa0⟩
    in_Rights := ⟨⟨opg0, ohd0, opo0, osa0⟩, oca0, ocn0, oct0, ocm0, by unfold PySem.W.kitOne; simp⟩
    sf_Rights := osf0
    cd_Rights := ⟨_, ocd0, omr0⟩
    ne_Rights := one0
    na_Rights__digit := ona_digit0
    nf_Rights_str := onfstr0
    kt_Rights_str := kit_ofT oic0 oyt0 oktstr0
    cr_AccessList := ⟨ord1, org1⟩
    gC_AccessList := PySem.W.mg_of X G oa1
    c_AccessList := ⟨_, PySem.W.mg_of X G oa1, rfl⟩
    cl_AccessList := ⟨opg1, ohd1, opo1, osa1⟩
    in_AccessList := ⟨⟨opg1, ohd1, opo1, osa1⟩, oca1, ocn1, oct1, ocm1, by unfold PySem.W.kitOne; simp⟩
    sf_AccessList := osf1
    cd_AccessList := ⟨_, ocd1, omr1⟩
    ne_AccessList := one1
    na_AccessList__owner := ona_owner1
    na_AccessList__group := ona_group1
    na_AccessList__other := ona_other1
    na_AccessList__users := ona_users1
    na_AccessList__groups := ona_groups1
    na_AccessList__mask := ona_mask1
    cr_People := ⟨ord2, org2⟩
    gC_People := PySem.W.mg_of X G oa2
    c_People := ⟨_, PySem.W.mg_of X G oa2, rfl⟩
    cl_People := ⟨opg2, ohd2, opo2, osa2⟩
    in_People := ⟨⟨opg2, ohd2, opo2, osa2⟩, oca2, ocn2, oct2, ocm2, by unfold PySem.W.kitOne; simp⟩
    sf_People := osf2
    cd_People := ⟨_, ocd2, omr2⟩
    ne_People := one2
    na_People__held := ona_held2
    na_People__groups := ona_groups2
    cr_Judge := ⟨ord3, org3⟩
    gC_Judge := PySem.W.mg_of X G oa3
    c_Judge := ⟨_, PySem.W.mg_of X G oa3, rfl⟩
    cl_Judge := ⟨opg3, ohd3, opo3, osa3⟩
    in_Judge := ⟨⟨opg3, ohd3, opo3, osa3⟩, oca3, ocn3, oct3, ocm3, by unfold PySem.W.kitOne; simp⟩
    sf_Judge := osf3
    cd_Judge := ⟨_, ocd3, omr3⟩
    ne_Judge := one3
    na_Judge__people := ona_people3
    F__wall := fun_mk l0 c0 k0
    B__wall := (fun_mk (st := s__wall) l0 c0 k0).binds (ps := ["k"]) fun _ _ _ _ _ _ us hl => match us, hl with | [_], _ => rfl
    g__wall := PySem.W.mg_of X G a0
    F_is_integer := fun_mk l1 c1 k1
    B_is_integer := (fun_mk (st := s_is_integer) l1 c1 k1).binds (ps := ["value", "low", "high"]) fun _ _ _ _ _ _ us hl => match us, hl with | [_, _, _], _ => rfl
    g_is_integer := PySem.W.mg_of X G a1
    F_is_name := fun_mk l2 c2 k2
    B_is_name := (fun_mk (st := s_is_name) l2 c2 k2).binds (ps := ["value"]) fun _ _ _ _ _ _ us hl => match us, hl with | [_], _ => rfl
    g_is_name := PySem.W.mg_of X G a2
    F_is_user_name := fun_mk l3 c3 k3
    B_is_user_name := (fun_mk (st := s_is_user_name) l3 c3 k3).binds (ps := ["value"]) fun _ _ _ _ _ _ us hl => match us, hl with | [_], _ => rfl
    g_is_user_name := PySem.W.mg_of X G a3
    F_is_list := fun_mk l4 c4 k4
    B_is_list := (fun_mk (st := s_is_list) l4 c4 k4).binds (ps := ["value"]) fun _ _ _ _ _ _ us hl => match us, hl with | [_], _ => rfl
    g_is_list := PySem.W.mg_of X G a4
    F_as_rights := fun_mk l5 c5 k5
    B_as_rights := (fun_mk (st := s_as_rights) l5 c5 k5).binds (ps := ["value"]) fun _ _ _ _ _ _ us hl => match us, hl with | [_], _ => rfl
    g_as_rights := PySem.W.mg_of X G a5
    F_as_digit := fun_mk l6 c6 k6
    B_as_digit := (fun_mk (st := s_as_digit) l6 c6 k6).binds (ps := ["value"]) fun _ _ _ _ _ _ us hl => match us, hl with | [_], _ => rfl
    g_as_digit := PySem.W.mg_of X G a6
    F__is_letters := fun_mk l7 c7 k7
    B__is_letters := (fun_mk (st := s__is_letters) l7 c7 k7).binds (ps := ["value"]) fun _ _ _ _ _ _ us hl => match us, hl with | [_], _ => rfl
    g__is_letters := PySem.W.mg_of X G a7
    F__digit_of := fun_mk l8 c8 k8
    B__digit_of := (fun_mk (st := s__digit_of) l8 c8 k8).binds (ps := ["value"]) fun _ _ _ _ _ _ us hl => match us, hl with | [_], _ => rfl
    g__digit_of := PySem.W.mg_of X G a8
    F__named_rights := fun_mk l9 c9 k9
    B__named_rights := (fun_mk (st := s__named_rights) l9 c9 k9).binds (ps := ["value"]) fun _ _ _ _ _ _ us hl => match us, hl with | [_], _ => rfl
    g__named_rights := PySem.W.mg_of X G a9
    F__keys_in_order := fun_mk l10 c10 k10
    B__keys_in_order := (fun_mk (st := s__keys_in_order) l10 c10 k10).binds (ps := ["value"]) fun _ _ _ _ _ _ us hl => match us, hl with | [_], _ => rfl
    g__keys_in_order := PySem.W.mg_of X G a10
    F_is_owner := fun_mk l11 c11 k11
    B_is_owner := (fun_mk (st := s_is_owner) l11 c11 k11).binds (ps := ["people", "value"]) fun _ _ _ _ _ _ us hl => match us, hl with | [_, _], _ => rfl
    g_is_owner := PySem.W.mg_of X G a11
    F_is_owner_group := fun_mk l12 c12 k12
    B_is_owner_group := (fun_mk (st := s_is_owner_group) l12 c12 k12).binds (ps := ["people", "value"]) fun _ _ _ _ _ _ us hl => match us, hl with | [_, _], _ => rfl
    g_is_owner_group := PySem.W.mg_of X G a12
    F__are_users := fun_mk l13 c13 k13
    B__are_users := (fun_mk (st := s__are_users) l13 c13 k13).binds (ps := ["value"]) fun _ _ _ _ _ _ us hl => match us, hl with | [_], _ => rfl
    g__are_users := PySem.W.mg_of X G a13
    F__are_groups := fun_mk l14 c14 k14
    B__are_groups := (fun_mk (st := s__are_groups) l14 c14 k14).binds (ps := ["value"]) fun _ _ _ _ _ _ us hl => match us, hl with | [_], _ => rfl
    g__are_groups := PySem.W.mg_of X G a14
    F_granting_digits := fun_mk l15 c15 k15
    B_granting_digits := (fun_mk (st := s_granting_digits) l15 c15 k15).binds (ps := ["people", "user", "owner", "group", "access"]) fun _ _ _ _ _ _ us hl => match us, hl with | [_, _, _, _, _], _ => rfl
    g_granting_digits := PySem.W.mg_of X G a15
    F__fitting := fun_mk l16 c16 k16
    B__fitting := (fun_mk (st := s__fitting) l16 c16 k16).binds (ps := ["people", "user", "owner", "group", "access"]) fun _ _ _ _ _ _ us hl => match us, hl with | [_, _, _, _, _], _ => rfl
    g__fitting := PySem.W.mg_of X G a16
    F_cell := fun_mk l17 c17 k17
    B_cell := (fun_mk (st := s_cell) l17 c17 k17).binds (ps := ["_law_script", "_law_k"]) fun _ _ _ _ _ _ us hl => match us, hl with | [_, _], _ => rfl
    g_cell := PySem.W.mg_of X G a17
    F_bag := fun_mk l18 c18 k18
    B_bag := (fun_mk (st := s_bag) l18 c18 k18).binds (ps := ["_law_number"]) fun _ _ _ _ _ _ us hl => match us, hl with | [_], _ => rfl
    g_bag := PySem.W.mg_of X G a18
    F_take := fun_mk l19 c19 k19
    B_take := (fun_mk (st := s_take) l19 c19 k19).binds (ps := ["_law_bag_here", "_law_count"]) fun _ _ _ _ _ _ us hl => match us, hl with | [_, _], _ => rfl
    g_take := PySem.W.mg_of X G a19
    F_names := fun_mk l20 c20 k20
    B_names := (fun_mk (st := s_names) l20 c20 k20).binds (ps := ["_law_bag_here", "_law_many"]) fun _ _ _ _ _ _ us hl => match us, hl with | [_, _], _ => rfl
    g_names := PySem.W.mg_of X G a20
    F_members := fun_mk l21 c21 k21
    B_members := (fun_mk (st := s_members) l21 c21 k21).binds (ps := ["_law_bag_here"]) fun _ _ _ _ _ _ us hl => match us, hl with | [_], _ => rfl
    g_members := PySem.W.mg_of X G a21
    F_all_groups := fun_mk l22 c22 k22
    B_all_groups := (fun_mk (st := s_all_groups) l22 c22 k22).binds (ps := ["_law_members_here"]) fun _ _ _ _ _ _ us hl => match us, hl with | [_], _ => rfl
    g_all_groups := PySem.W.mg_of X G a22
    F_text := fun_mk l23 c23 k23
    B_text := (fun_mk (st := s_text) l23 c23 k23).binds (ps := ["_law_digit"]) fun _ _ _ _ _ _ us hl => match us, hl with | [_], _ => rfl
    g_text := PySem.W.mg_of X G a23
    F_access := fun_mk l24 c24 k24
    B_access := (fun_mk (st := s_access) l24 c24 k24).binds (ps := ["_law_bag_here", "_law_members_here"]) fun _ _ _ _ _ _ us hl => match us, hl with | [_, _], _ => rfl
    g_access := PySem.W.mg_of X G a24
    F_made := fun_mk l25 c25 k25
    B_made := (fun_mk (st := s_made) l25 c25 k25).binds (ps := ["_law_some"]) fun _ _ _ _ _ _ us hl => match us, hl with | [_], _ => rfl
    g_made := PySem.W.mg_of X G a25
    F_case := fun_mk l26 c26 k26
    B_case := (fun_mk (st := s_case) l26 c26 k26).binds (ps := ["_law_members_here", "_law_user", "_law_owner", "_law_group", "_law_some"]) fun _ _ _ _ _ _ us hl => match us, hl with | [_, _, _, _, _], _ => rfl
    g_case := PySem.W.mg_of X G a26
    F_granted := fun_mk l27 c27 k27
    B_granted := (fun_mk (st := s_granted) l27 c27 k27).binds (ps := ["_law_members_here", "_law_user", "_law_owner", "_law_group", "_law_some", "_law_digit"]) fun _ _ _ _ _ _ us hl => match us, hl with | [_, _, _, _, _, _], _ => rfl
    g_granted := PySem.W.mg_of X G a27
    F_right := fun_mk l28 c28 k28
    B_right := (fun_mk (st := s_right) l28 c28 k28).binds (ps := ["_law_bag_here", "_law_judge", "_law_members_here", "_law_owner", "_law_group", "_law_some"]) fun _ _ _ _ _ _ us hl => match us, hl with | [_, _, _, _, _, _], _ => rfl
    g_right := PySem.W.mg_of X G a28
    F_law := fun_mk l29 c29 k29
    B_law := (fun_mk (st := s_law) l29 c29 k29).binds (ps := ["_law_script"]) fun _ _ _ _ _ _ us hl => match us, hl with | [_], _ => rfl
    g_law := PySem.W.mg_of X G a29
    F_Rights___init__ := ⟨⟨oc30, od30, .ref DT30, kV30, dc30, pm30, an30, cd30, ct30, sl30, rfl, l30, c30, .inr ⟨by simp, DT30, dto30, dti30, dtn30, rfl, dl30, dd30, dv30⟩, .inl rfl⟩, k30⟩
    me_Rights___init__ := ⟨a30, t30, k30⟩
    mk_Rights := ⟨omk0, a30, t30, okc0⟩
    F_Rights_of := fun_mk l31 c31 k31
    cm_Rights_of := ⟨a31, ⟨_, px31⟩, pf31⟩
    F_Rights_from_digit := fun_mk l32 c32 k32
    B_Rights_from_digit := (fun_mk (st := s_Rights_from_digit) l32 c32 k32).binds (ps := ["cls", "digit"]) fun _ _ _ _ _ _ us hl => match us, hl with | [_, _], _ => rfl
    cm_Rights_from_digit := ⟨a32, ⟨_, px32⟩, pf32⟩
    F_Rights_digit := fun_mk l33 c33 k33
    B_Rights_digit := (fun_mk (st := s_Rights_digit) l33 c33 k33).binds (ps := ["self"]) fun _ _ _ _ _ _ us hl => match us, hl with | [_], _ => rfl
    pr_Rights_digit := ⟨a33, pg33, pt33, _, px33⟩
    F_Rights___or__ := fun_mk l36 c36 k36
    B_Rights___or__ := (fun_mk (st := s_Rights___or__) l36 c36 k36).binds (ps := ["self", "other"]) fun _ _ _ _ _ _ us hl => match us, hl with | [_, _], _ => rfl
    me_Rights___or__ := ⟨a36, t36, k36⟩
    F_Rights___eq__ := fun_mk l41 c41 k41
    B_Rights___eq__ := (fun_mk (st := s_Rights___eq__) l41 c41 k41).binds (ps := ["self", "other"]) fun _ _ _ _ _ _ us hl => match us, hl with | [_, _], _ => rfl
    me_Rights___eq__ := ⟨a41, t41, k41⟩
    F_AccessList___init__ := ⟨⟨oc47, od47, .none, .ref D47, dc47, pm47, an47, cd47, ct47, sl47, rfl, l47, c47, .inl ⟨rfl, rfl⟩, .inr ⟨D47, rfl, (List.forall_mem_cons.mpr ⟨⟨_, w47_0, rfl⟩, (List.forall_mem_cons.mpr ⟨⟨_, w47_1, rfl⟩, (List.forall_mem_cons.mpr ⟨⟨_, w47_2, rfl⟩, (fun _ h => by simp at h)⟩)⟩)⟩)⟩⟩, k47⟩
    me_AccessList___init__ := ⟨a47, t47, k47⟩
    mk_AccessList := ⟨omk1, a47, t47, okc1⟩
    F_AccessList__first_mask := fun_mk l48 c48 k48
    B_AccessList__first_mask := (fun_mk (st := s_AccessList__first_mask) l48 c48 k48).binds (ps := ["self"]) fun _ _ _ _ _ _ us hl => match us, hl with | [_], _ => rfl
    me_AccessList__first_mask := ⟨a48, t48, k48⟩
    F_AccessList_owner := fun_mk l52 c52 k52
    B_AccessList_owner := (fun_mk (st := s_AccessList_owner) l52 c52 k52).binds (ps := ["self"]) fun _ _ _ _ _ _ us hl => match us, hl with | [_], _ => rfl
    pr_AccessList_owner := ⟨a52, pg52, pt52, _, px52⟩
    F_AccessList_group := fun_mk l53 c53 k53
    B_AccessList_group := (fun_mk (st := s_AccessList_group) l53 c53 k53).binds (ps := ["self"]) fun _ _ _ _ _ _ us hl => match us, hl with | [_], _ => rfl
    pr_AccessList_group := ⟨a53, pg53, pt53, _, px53⟩
    F_AccessList_other := fun_mk l54 c54 k54
    B_AccessList_other := (fun_mk (st := s_AccessList_other) l54 c54 k54).binds (ps := ["self"]) fun _ _ _ _ _ _ us hl => match us, hl with | [_], _ => rfl
    pr_AccessList_other := ⟨a54, pg54, pt54, _, px54⟩
    F_AccessList_mask := fun_mk l55 c55 k55
    B_AccessList_mask := (fun_mk (st := s_AccessList_mask) l55 c55 k55).binds (ps := ["self"]) fun _ _ _ _ _ _ us hl => match us, hl with | [_], _ => rfl
    pr_AccessList_mask := ⟨a55, pg55, pt55, _, px55⟩
    F_AccessList_users := fun_mk l58 c58 k58
    B_AccessList_users := (fun_mk (st := s_AccessList_users) l58 c58 k58).binds (ps := ["self"]) fun _ _ _ _ _ _ us hl => match us, hl with | [_], _ => rfl
    me_AccessList_users := ⟨a58, t58, k58⟩
    F_AccessList_groups := fun_mk l59 c59 k59
    B_AccessList_groups := (fun_mk (st := s_AccessList_groups) l59 c59 k59).binds (ps := ["self"]) fun _ _ _ _ _ _ us hl => match us, hl with | [_], _ => rfl
    me_AccessList_groups := ⟨a59, t59, k59⟩
    F_AccessList_entries := fun_mk l60 c60 k60
    B_AccessList_entries := (fun_mk (st := s_AccessList_entries) l60 c60 k60).binds (ps := ["self"]) fun _ _ _ _ _ _ us hl => match us, hl with | [_], _ => rfl
    me_AccessList_entries := ⟨a60, t60, k60⟩
    F_People___init__ := fun_mk l71 c71 k71
    B_People___init__ := (fun_mk (st := s_People___init__) l71 c71 k71).binds (ps := ["self", "members"]) fun _ _ _ _ _ _ us hl => match us, hl with | [_, _], _ => rfl
    me_People___init__ := ⟨a71, t71, k71⟩
    mk_People := ⟨omk2, a71, t71, okc2⟩
    F_People_groups := fun_mk l73 c73 k73
    B_People_groups := (fun_mk (st := s_People_groups) l73 c73 k73).binds (ps := ["self"]) fun _ _ _ _ _ _ us hl => match us, hl with | [_], _ => rfl
    me_People_groups := ⟨a73, t73, k73⟩
    F_People_groups_of := fun_mk l74 c74 k74
    B_People_groups_of := (fun_mk (st := s_People_groups_of) l74 c74 k74).binds (ps := ["self", "user"]) fun _ _ _ _ _ _ us hl => match us, hl with | [_, _], _ => rfl
    me_People_groups_of := ⟨a74, t74, k74⟩
    F_People___contains__ := fun_mk l77 c77 k77
    B_People___contains__ := (fun_mk (st := s_People___contains__) l77 c77 k77).binds (ps := ["self", "value"]) fun _ _ _ _ _ _ us hl => match us, hl with | [_, _], _ => rfl
    me_People___contains__ := ⟨a77, t77, k77⟩
    F_Judge___init__ := fun_mk l81 c81 k81
    B_Judge___init__ := (fun_mk (st := s_Judge___init__) l81 c81 k81).binds (ps := ["self", "people"]) fun _ _ _ _ _ _ us hl => match us, hl with | [_, _], _ => rfl
    me_Judge___init__ := ⟨a81, t81, k81⟩
    mk_Judge := ⟨omk3, a81, t81, okc3⟩
    F_Judge___call__ := fun_mk l82 c82 k82
    B_Judge___call__ := (fun_mk (st := s_Judge___call__) l82 c82 k82).binds (ps := ["self", "user", "owner", "group", "access", "letters"]) fun _ _ _ _ _ _ us hl => match us, hl with | [_, _, _, _, _, _], _ => rfl
    me_Judge___call__ := ⟨a82, t82, k82⟩
    F_Judge_deciding := fun_mk l83 c83 k83
    B_Judge_deciding := (fun_mk (st := s_Judge_deciding) l83 c83 k83).binds (ps := ["self", "user", "owner", "group", "access", "letters"]) fun _ _ _ _ _ _ us hl => match us, hl with | [_, _, _, _, _, _], _ => rfl
    me_Judge_deciding := ⟨a83, t83, k83⟩
    F_Judge_letters_of := fun_mk l84 c84 k84
    B_Judge_letters_of := (fun_mk (st := s_Judge_letters_of) l84 c84 k84).binds (ps := ["self", "user", "owner", "group", "access"]) fun _ _ _ _ _ _ us hl => match us, hl with | [_, _, _, _, _], _ => rfl
    me_Judge_letters_of := ⟨a84, t84, k84⟩
    F_Judge__check := fun_mk l85 c85 k85
    B_Judge__check := (fun_mk (st := s_Judge__check) l85 c85 k85).binds (ps := ["self", "user", "owner", "group", "access"]) fun _ _ _ _ _ _ us hl => match us, hl with | [_, _, _, _, _], _ => rfl
    me_Judge__check := ⟨a85, t85, k85⟩
    c_LONGEST_NAME := ⟨_, PySem.W.mg_of X G q0, _, rfl⟩
    c_LETTERS := ⟨_, PySem.W.mg_of X G q1, _, rfl⟩
    c_ALL_DIGIT := ⟨_, PySem.W.mg_of X G q2, _, rfl⟩
    c_DIGITS := ⟨_, PySem.W.mg_of X G q3, rfl⟩
    kd_DIGITS := ⟨_, _, kl3, ky3, ks3⟩
    at_DIGITS_ := ⟨_, _, _, kl3, ky3, kv3_0, _, rfl⟩
    at_DIGITS_x := ⟨_, _, _, kl3, ky3, kv3_1, _, rfl⟩
    at_DIGITS_w := ⟨_, _, _, kl3, ky3, kv3_2, _, rfl⟩
    at_DIGITS_wx := ⟨_, _, _, kl3, ky3, kv3_3, _, rfl⟩
    at_DIGITS_xw := ⟨_, _, _, kl3, ky3, kv3_4, _, rfl⟩
    at_DIGITS_r := ⟨_, _, _, kl3, ky3, kv3_5, _, rfl⟩
    at_DIGITS_rx := ⟨_, _, _, kl3, ky3, kv3_6, _, rfl⟩
    at_DIGITS_xr := ⟨_, _, _, kl3, ky3, kv3_7, _, rfl⟩
    at_DIGITS_rw := ⟨_, _, _, kl3, ky3, kv3_8, _, rfl⟩
    at_DIGITS_wr := ⟨_, _, _, kl3, ky3, kv3_9, _, rfl⟩
    at_DIGITS_rwx := ⟨_, _, _, kl3, ky3, kv3_10, _, rfl⟩
    at_DIGITS_rxw := ⟨_, _, _, kl3, ky3, kv3_11, _, rfl⟩
    at_DIGITS_wrx := ⟨_, _, _, kl3, ky3, kv3_12, _, rfl⟩
    at_DIGITS_wxr := ⟨_, _, _, kl3, ky3, kv3_13, _, rfl⟩
    at_DIGITS_xrw := ⟨_, _, _, kl3, ky3, kv3_14, _, rfl⟩
    at_DIGITS_xwr := ⟨_, _, _, kl3, ky3, kv3_15, _, rfl⟩
    c_WORDS := ⟨_, PySem.W.mg_of X G q4, rfl⟩
    tu_WORDS := ⟨_, _, _, kl4, ku4, kd4, kz4, kv4⟩
    c_MOST_NAMED := ⟨_, PySem.W.mg_of X G q5, _, rfl⟩
    c_KIND_SIGNS := ⟨_, PySem.W.mg_of X G q6, rfl⟩
    kd_KIND_SIGNS := ⟨_, _, kl6, ky6, ks6⟩
    at_KIND_SIGNS_owner := ⟨_, _, _, kl6, ky6, kv6_0, _, rfl⟩
    at_KIND_SIGNS_user := ⟨_, _, _, kl6, ky6, kv6_1, _, rfl⟩
    at_KIND_SIGNS_group := ⟨_, _, _, kl6, ky6, kv6_2, _, rfl⟩
    at_KIND_SIGNS_named := ⟨_, _, _, kl6, ky6, kv6_3, _, rfl⟩
    at_KIND_SIGNS_mask := ⟨_, _, _, kl6, ky6, kv6_4, _, rfl⟩
    at_KIND_SIGNS_other := ⟨_, _, _, kl6, ky6, kv6_5, _, rfl⟩
    c_MOST_USERS := ⟨_, PySem.W.mg_of X G q7, _, rfl⟩
    c_MOST_GROUPS := ⟨_, PySem.W.mg_of X G q8, _, rfl⟩
    b_all := PySem.W.mg_none_of X G z0
    b_any := PySem.W.mg_none_of X G z1
    b_bool := PySem.W.mg_none_of X G z2
    b_dict := PySem.W.mg_none_of X G z3
    b_int := PySem.W.mg_none_of X G z4
    b_isinstance := PySem.W.mg_none_of X G z5
    b_len := PySem.W.mg_none_of X G z6
    b_list := PySem.W.mg_none_of X G z7
    b_max := PySem.W.mg_none_of X G z8
    b_min := PySem.W.mg_none_of X G z9
    b_range := PySem.W.mg_none_of X G z10
    b_set := PySem.W.mg_none_of X G z11
    b_sorted := PySem.W.mg_none_of X G z12
    b_str := PySem.W.mg_none_of X G z13
    b_sum := PySem.W.mg_none_of X G z14
    b_tuple := PySem.W.mg_none_of X G z15 }
  exact ⟨A.d_law, fun s v => .of_eq rfl, fun base _ _ => ok_law T⟩
end K26
namespace PySem.W.Fast
theorem tw4602349017584298131 : True := .intro
theorem tw9089470692830392895 : True := .intro
theorem tw8239931667304641219 : True := .intro
theorem tw18392368341994960734 : True := .intro
theorem tw12911000388246764618 : True := .intro
theorem tw13092218939645459399 : True := .intro
theorem tw14697922311352967164 : True := .intro
theorem tw10455144893483855571 : True := .intro
theorem tw4599462742910534087 : True := .intro
theorem tw6530462610293006071 : True := .intro
theorem tw11059613643723490625 : True := .intro
theorem tw18174510673386537791 : True := .intro
theorem tw17902597436037409515 : True := .intro
theorem tw14647988733429114882 : True := .intro
theorem tw2313422478605061930 : True := .intro
theorem tw16989057738341299594 : True := .intro
theorem tw17461994185298963225 : True := .intro
theorem tw3406055414204741638 : True := .intro
theorem tw10411027804803522850 : True := .intro
theorem tw13661990547992215660 : True := .intro
theorem tw11740115254972947376 : True := .intro
theorem tw3970378298766105024 : True := .intro
theorem tw3840961454286503414 : True := .intro
theorem tw10437596640861164657 : True := .intro
theorem tw4085454385414241858 : True := .intro
theorem tw1972417525840028786 : True := .intro
theorem tw3274110429366705853 : True := .intro
theorem tw9263799059720004655 : True := .intro
theorem tw12019485334939817611 : True := .intro
theorem tw1446352929672627947 : True := .intro
theorem tw13243793607340576606 : True := .intro
theorem tw10365869765323735219 : True := .intro
theorem tw12006974216614374999 : True := .intro
theorem tw10694256508071471701 : True := .intro
theorem tw13616064556290963270 : True := .intro
theorem tw7361595418230463889 : True := .intro
theorem tw6007184702277893373 : True := .intro
theorem tw5245562138813078302 : True := .intro
theorem tw4591446903431286778 : True := .intro
theorem tw15496244669820444466 : True := .intro
theorem tw17086847939830417302 : True := .intro
theorem tw4427031794009006047 : True := .intro
theorem tw13392639829591055816 : True := .intro
theorem tw11319944077516009527 : True := .intro
theorem tw5227120796810273436 : True := .intro
theorem tw7618047558284250595 : True := .intro
theorem tw7216373318963821434 : True := .intro
theorem tw12290155719341893841 : True := .intro
theorem tw7183324173053496511 : True := .intro
theorem tw13703303082812401109 : True := .intro
theorem tw8821325736452417835 : True := .intro
theorem tw18004805907658572414 : True := .intro
theorem tw6193218649596925967 : True := .intro
theorem tw700338958472138560 : True := .intro
theorem tw6317477894484153547 : True := .intro
theorem tw17153608814946946716 : True := .intro
theorem tw2051140369668017254 : True := .intro
theorem tw9822700625212370019 : True := .intro
theorem tw6014750742880417462 : True := .intro
theorem tw17145806662681539344 : True := .intro
theorem tw15878463230408077731 : True := .intro
theorem tw10254332641485472065 : True := .intro
theorem tw14767322275742516265 : True := .intro
theorem tw11403710386843791680 : True := .intro
theorem tw6414412953412555282 : True := .intro
theorem tw2794863384422857982 : True := .intro
theorem tw2530672777078845935 : True := .intro
theorem tw1225237220220705933 : True := .intro
theorem tw14911636271298549245 : True := .intro
theorem tw7308401384203484519 : True := .intro
theorem tw5196822762064502094 : True := .intro
theorem tw12685466865905210156 : True := .intro
theorem tw8148389344289112481 : True := .intro
theorem tw12931396823067886726 : True := .intro
theorem tw525556632476106688 : True := .intro
theorem tw1896693080524814250 : True := .intro
theorem tw3808745292268774517 : True := .intro
theorem tw13589464936245534563 : True := .intro
theorem tw2547451996913363648 : True := .intro
theorem tw13740419305874654711 : True := .intro
theorem tw15413556321096912274 : True := .intro
theorem tw5207335424708258928 : True := .intro
theorem tw7563045604804775797 : True := .intro
theorem tw17649432754272782923 : True := .intro
theorem tw12939797140468745386 : True := .intro
theorem tw2287533599150809679 : True := .intro
theorem tw4298446200172527302 : True := .intro
theorem tw1085875616855756942 : True := .intro
theorem tw6725207879623550208 : True := .intro
theorem tw6670929488496443831 : True := .intro
theorem tw2795875610272826103 : True := .intro
theorem tw12506711527561836741 : True := .intro
theorem tw12824386390367204207 : True := .intro
theorem tw17240522046172317558 : True := .intro
theorem tw12511758877110895488 : True := .intro
theorem tw10189195600064124450 : True := .intro
theorem tw13191350347613534438 : True := .intro
theorem tw9772264303394402927 : True := .intro
theorem tw17326406049229627763 : True := .intro
theorem tw9571245730219261530 : True := .intro
theorem tw7652599551902409293 : True := .intro
theorem tw13731662472155938391 : True := .intro
theorem tw9004901186175793704 : True := .intro
theorem tw16050154800761668529 : True := .intro
theorem tw6699864898385519104 : True := .intro
theorem tw4626712253397058323 : True := .intro
theorem tw10926598103540899591 : True := .intro
theorem tw15991189483671550062 : True := .intro
theorem tw6854664410115409788 : True := .intro
theorem tw5987858850017071911 : True := .intro
theorem tw11611852542187118725 : True := .intro
theorem tw17473162515737530680 : True := .intro
theorem tw6754096333192021903 : True := .intro
theorem tw7520225971144126687 : True := .intro
theorem tw1106855925981727411 : True := .intro
theorem tw702382596560633052 : True := .intro
theorem tw17818140139354153837 : True := .intro
theorem tw12362416420479706827 : True := .intro
theorem tw17648107360705307798 : True := .intro
theorem tw7642005116649078007 : True := .intro
theorem tw213980048611648238 : True := .intro
theorem tw197870010684651014 : True := .intro
theorem tw9329979684825357744 : True := .intro
theorem tw15454747839432028838 : True := .intro
theorem tw13023670294644782683 : True := .intro
theorem tw5690809499320466624 : True := .intro
theorem tw12275959478305417014 : True := .intro
theorem tw3306958788165826625 : True := .intro
theorem tw14910597100195137829 : True := .intro
theorem tw16016871035358480302 : True := .intro
theorem tw3544849122047509676 : True := .intro
theorem tw12928072281866363795 : True := .intro
theorem tw9876392326008519693 : True := .intro
theorem tw3302051515832501110 : True := .intro
theorem tw12914162216427512883 : True := .intro
theorem tw17953536804892257070 : True := .intro
theorem tw10711975649775083429 : True := .intro
theorem tw17965223242085754161 : True := .intro
theorem tw2382325511319191873 : True := .intro
theorem tw15051472168670720598 : True := .intro
theorem tw1345310859043105492 : True := .intro
theorem tw10422930632698745227 : True := .intro
theorem tw5215003410382204724 : True := .intro
theorem tw2334082649840263260 : True := .intro
theorem tw12276764211967924915 : True := .intro
theorem tw18294876719782847275 : True := .intro
theorem tw13639534717755123035 : True := .intro
theorem tw8993009922421425895 : True := .intro
theorem tw18200733017344850171 : True := .intro
theorem tw11822850995342107694 : True := .intro
theorem tw12786562676590224542 : True := .intro
theorem tw13621009882305609467 : True := .intro
theorem tw10036667448132167350 : True := .intro
theorem tw3059592017020010401 : True := .intro
theorem tw10271614042745515749 : True := .intro
theorem tw1374187441566250054 : True := .intro
theorem tw12492795890232151970 : True := .intro
theorem tw14761044013977724821 : True := .intro
theorem tw14897039941638977030 : True := .intro
theorem tw10570178816386730667 : True := .intro
theorem tw14019617884293681143 : True := .intro
theorem tw9968570732854454384 : True := .intro
theorem tw17884352467552318677 : True := .intro
theorem tw3730959503156405602 : True := .intro
theorem tw17598071480749933577 : True := .intro
theorem tw14651190411618800222 : True := .intro
theorem tw3490587911396987832 : True := .intro
theorem tw1616237253352265554 : True := .intro
theorem tw15743311061535609340 : True := .intro
theorem tw13744581402295771313 : True := .intro
theorem tw15749181278619031120 : True := .intro
theorem tw10701380376378827277 : True := .intro
theorem tw18268220117464618024 : True := .intro
theorem tw16315840420794233748 : True := .intro
theorem tw5906089868823322080 : True := .intro
theorem tw3203991555264825578 : True := .intro
theorem tw9417105311892443315 : True := .intro
theorem tw12112782287119517256 : True := .intro
theorem tw12109352636092580250 : True := .intro
theorem tw10204344857741699953 : True := .intro
theorem tw13522000735690623821 : True := .intro
theorem tw10871368049526524753 : True := .intro
theorem tw11541103439569278794 : True := .intro
theorem tw4519512678299662202 : True := .intro
theorem tw14488533932530917767 : True := .intro
theorem tw17895736559632892537 : True := .intro
theorem tw5625587577504547386 : True := .intro
theorem tw2597554497484957399 : True := .intro
theorem tw6103839296193001712 : True := .intro
theorem tw11446867843779611428 : True := .intro
theorem tw2126349921315637925 : True := .intro
theorem tw303979810904809253 : True := .intro
theorem tw13115002126114763960 : True := .intro
theorem tw7282403671356858243 : True := .intro
theorem tw3681695303854722292 : True := .intro
theorem tw11510406182133296496 : True := .intro
theorem tw16720218704738988987 : True := .intro
theorem tw1970413348525114408 : True := .intro
theorem tw6339648259750993259 : True := .intro
theorem tw4834943984699519066 : True := .intro
theorem tw6572802715535138214 : True := .intro
theorem tw2572530910050055002 : True := .intro
theorem tw14066986267947112964 : True := .intro
theorem tw16257399974043703244 : True := .intro
theorem tw6696017985208958789 : True := .intro
theorem tw8494474464582909645 : True := .intro
theorem tw12276040475140196741 : True := .intro
theorem tw1173903330478521304 : True := .intro
theorem tw4645492367860916159 : True := .intro
theorem tw17797675751258627798 : True := .intro
theorem tw6628047100635700867 : True := .intro
theorem tw9981515433278250194 : True := .intro
theorem tw12881707966748158828 : True := .intro
theorem tw8819841642986326704 : True := .intro
theorem tw9857852076451922577 : True := .intro
theorem tw11008158783213860217 : True := .intro
theorem tw12646700677606022008 : True := .intro
theorem tw14823053869012085086 : True := .intro
theorem tw13426857251704758096 : True := .intro
theorem tw17902410401506583228 : True := .intro
theorem tw9498559800155319433 : True := .intro
theorem tw10878264195249812822 : True := .intro
theorem tw9126947178519628137 : True := .intro
theorem tw17520932068535236847 : True := .intro
theorem tw18153068008902744281 : True := .intro
theorem tw4869399007126834746 : True := .intro
theorem tw17029231216943276436 : True := .intro
theorem tw12244726792633012924 : True := .intro
theorem tw14004598068068817363 : True := .intro
theorem tw11041312488099419827 : True := .intro
theorem tw14184187248912111941 : True := .intro
theorem tw7091628051423380159 : True := .intro
theorem tw11063919922715263892 : True := .intro
theorem tw12226649220004461549 : True := .intro
theorem tw15394239930631347252 : True := .intro
theorem tw6360575751246456933 : True := .intro
theorem tw15993569716765723818 : True := .intro
theorem tw512572425703686094 : True := .intro
theorem tw7521817433108313646 : True := .intro
theorem tw15719688861280331185 : True := .intro
theorem tw9759200921785019655 : True := .intro
theorem tw16001054956655476028 : True := .intro
theorem tw12182406286297776204 : True := .intro
theorem tw676535665184930223 : True := .intro
theorem tw13055561320459120423 : True := .intro
theorem tw7606498365573821079 : True := .intro
theorem tw10087249711336494449 : True := .intro
theorem tw11289769768013116750 : True := .intro
theorem tw10734144103834673353 : True := .intro
theorem tw13102390026766651229 : True := .intro
theorem tw16777844349985196295 : True := .intro
theorem tw1329723459091055037 : True := .intro
theorem tw906917188795340581 : True := .intro
theorem tw2483498128074033451 : True := .intro
theorem tw10055361596087534318 : True := .intro
theorem tw1156785650435702496 : True := .intro
theorem tw4034860702129035162 : True := .intro
theorem tw11913620395218507854 : True := .intro
theorem tw17063265603040394689 : True := .intro
theorem tw9004714882545579429 : True := .intro
theorem tw5083234397563778670 : True := .intro
theorem tw1406275402560092829 : True := .intro
theorem tw11156869506632095705 : True := .intro
theorem tw5758767842296651433 : True := .intro
theorem tw16101423268347286478 : True := .intro
theorem tw7072433268839136077 : True := .intro
theorem tw6291321604528463452 : True := .intro
theorem tw18381392948450484969 : True := .intro
theorem tw12090173947202732711 : True := .intro
theorem tw3392890814331757487 : True := .intro
theorem tw8345261801116573699 : True := .intro
theorem tw11412249435052737785 : True := .intro
theorem tw12572388082316723095 : True := .intro
theorem tw2738168586749942332 : True := .intro
theorem tw11209312163343365463 : True := .intro
theorem tw884268133059456684 : True := .intro
theorem tw17106221510162314734 : True := .intro
theorem tw8733462952758990340 : True := .intro
theorem tw2140881889055372384 : True := .intro
theorem tw17274843792567471287 : True := .intro
theorem tw6918806492417054739 : True := .intro
theorem tw2074018784777348026 : True := .intro
theorem tw440922107852208256 : True := .intro
theorem tw12213562505951569023 : True := .intro
theorem tw9894343115375674720 : True := .intro
theorem tw5890995948223278796 : True := .intro
theorem tw9725788455920195322 : True := .intro
theorem tw12339121606940427663 : True := .intro
theorem tw3795768017897120067 : True := .intro
theorem tw16124404983256288821 : True := .intro
theorem tw15978047812861012498 : True := .intro
theorem tw15838480106854376872 : True := .intro
theorem tw12118436046516663351 : True := .intro
theorem tw13652479321743285294 : True := .intro
theorem tw15148815168219622308 : True := .intro
theorem tw8756832808491004744 : True := .intro
theorem tw11212947959007530865 : True := .intro
theorem tw767202891715457017 : True := .intro
theorem tw13216783043796345439 : True := .intro
theorem tw11180722696496244681 : True := .intro
theorem tw2267961793757636020 : True := .intro
theorem tw18292753410909752051 : True := .intro
theorem tw4912236588466332986 : True := .intro
theorem tw18104583390867283757 : True := .intro
theorem tw972969508428499669 : True := .intro
theorem tw7213886462632528059 : True := .intro
theorem tw5292342702219470599 : True := .intro
theorem tw2269666295759217974 : True := .intro
theorem tw15834618223034861390 : True := .intro
theorem tw13779981645597516878 : True := .intro
theorem tw9267328700959504404 : True := .intro
theorem tw10755935178309345128 : True := .intro
theorem tw4860928213298063272 : True := .intro
theorem tw1347629013395927086 : True := .intro
theorem tw12002680095075878738 : True := .intro
theorem tw3302872421593567320 : True := .intro
theorem tw6366973202574805667 : True := .intro
theorem tw7600961889113583109 : True := .intro
theorem tw16827213701090541191 : True := .intro
theorem tw11250552854093501103 : True := .intro
theorem tw5255376000589739791 : True := .intro
theorem tw1007292168768887488 : True := .intro
theorem tw6331726334339106911 : True := .intro
theorem tw9934715912422994688 : True := .intro
theorem tw15688107435256226884 : True := .intro
theorem tw3817586176197706015 : True := .intro
theorem tw2471498531165917105 : True := .intro
theorem tw17443282217065009734 : True := .intro
theorem tw9310539546372608573 : True := .intro
theorem tw4200250757700912851 : True := .intro
theorem tw11025174493453932090 : True := .intro
theorem tw9200857225001816780 : True := .intro
theorem tw7337642021689120751 : True := .intro
theorem tw11763556793877914213 : True := .intro
theorem tw2336185888821829690 : True := .intro
theorem tw606245883713392428 : True := .intro
theorem tw2669632780322046194 : True := .intro
theorem tw15093080048121696803 : True := .intro
theorem tw9013115722466201955 : True := .intro
theorem tw7119088022880075262 : True := .intro
theorem tw1906015130570469511 : True := .intro
theorem tw10285950889953528540 : True := .intro
theorem tw14532131985909088085 : True := .intro
theorem tw17949661422456096384 : True := .intro
theorem tw6425783272373947191 : True := .intro
theorem tw12096728834591934847 : True := .intro
theorem tw16504481053283794874 : True := .intro
theorem tw16408712960941522364 : True := .intro
theorem tw11549911705603400447 : True := .intro
theorem tw14067868559632280511 : True := .intro
theorem tw152129051102954560 : True := .intro
theorem tw9800803678113725229 : True := .intro
theorem tw13552712550742067700 : True := .intro
theorem tw9514076259309788876 : True := .intro
theorem tw2957578760513897974 : True := .intro
theorem tw7185195528339549854 : True := .intro
theorem tw2449601533768444535 : True := .intro
theorem tw5435031455149145198 : True := .intro
theorem tw3897726302161384445 : True := .intro
theorem tw12452418090298507583 : True := .intro
theorem tw6309953523595018282 : True := .intro
theorem tw1965002365561863528 : True := .intro
theorem tw16418807104435028463 : True := .intro
theorem tw11832830691443825899 : True := .intro
theorem tw7652877578168678429 : True := .intro
theorem tw9401391052465735888 : True := .intro
theorem tw15597671900792455614 : True := .intro
theorem tw9789643699585676997 : True := .intro
theorem tw3079785989202034694 : True := .intro
theorem tw16105365621976585288 : True := .intro
theorem tw15416827773093787463 : True := .intro
theorem tw12771789402060021255 : True := .intro
theorem tw11417069593347008982 : True := .intro
theorem tw7144637958935075599 : True := .intro
theorem tw6768904033241769833 : True := .intro
theorem tw8479172419163900826 : True := .intro
theorem tw15554349394532669148 : True := .intro
theorem tw12692988728949890185 : True := .intro
theorem tw11152186780251375719 : True := .intro
theorem tw7009157176133265010 : True := .intro
theorem tw18044629876869475428 : True := .intro
theorem tw11224321947467075944 : True := .intro
theorem tw11418133115701120587 : True := .intro
theorem tw16197429761854275355 : True := .intro
theorem tw15716876147377081758 : True := .intro
theorem tw66229343366139914 : True := .intro
theorem tw7591889409139441778 : True := .intro
theorem tw3189316173142716368 : True := .intro
theorem tw6668833993016199909 : True := .intro
theorem tw4888985260238576192 : True := .intro
theorem tw1282890315359993435 : True := .intro
theorem tw9846263683865621186 : True := .intro
theorem tw15742749791137433801 : True := .intro
theorem tw419087462770595567 : True := .intro
theorem tw17590559824527839162 : True := .intro
theorem tw14859668486119769752 : True := .intro
theorem tw9324393400439657088 : True := .intro
theorem tw2707561477460679074 : True := .intro
theorem tw13424152817826189215 : True := .intro
theorem tw7663186057502871331 : True := .intro
theorem tw17133711213827765713 : True := .intro
theorem tw4265007430803036033 : True := .intro
theorem tw17524997484991733020 : True := .intro
theorem tw545661055778414374 : True := .intro
theorem tw10812255785969279248 : True := .intro
theorem tw5836238737401123802 : True := .intro
theorem tw7979800807098106819 : True := .intro
theorem tw6938362865901510886 : True := .intro
theorem tw16739060276690380814 : True := .intro
theorem tw4820788206732453865 : True := .intro
theorem tw6979374929511063525 : True := .intro
theorem tw9482419588852321908 : True := .intro
theorem tw14946776677580834625 : True := .intro
theorem tw10957731706317466278 : True := .intro
theorem tw8333688898005378568 : True := .intro
theorem tw16410585076492983310 : True := .intro
theorem tw5665706734651014182 : True := .intro
theorem tw8924953619255046083 : True := .intro
theorem tw754000412427553623 : True := .intro
theorem tw15716286840748138827 : True := .intro
theorem tw8813591599226969550 : True := .intro
theorem tw10949527833825012646 : True := .intro
theorem tw6825645145760672150 : True := .intro
theorem tw15686779756883059646 : True := .intro
theorem tw2653368636975593265 : True := .intro
theorem tw3301728974452263197 : True := .intro
theorem tw16305321520481303566 : True := .intro
theorem tw12084025551392632235 : True := .intro
theorem tw467092177700509452 : True := .intro
theorem tw4091665965621062243 : True := .intro
theorem tw2891112749037955579 : True := .intro
theorem tw1843116820335997377 : True := .intro
theorem tw8179493688259311009 : True := .intro
theorem tw5246613074385606817 : True := .intro
theorem tw514636035486695296 : True := .intro
theorem tw15313447298298879054 : True := .intro
theorem tw15006139845291218602 : True := .intro
theorem tw8160664867395479266 : True := .intro
theorem tw17709330414963135438 : True := .intro
theorem tw7671157827346003330 : True := .intro
theorem tw9805353324450527772 : True := .intro
theorem tw8377905097823313475 : True := .intro
theorem tw11102236524717439581 : True := .intro
theorem tw14064895024408418525 : True := .intro
theorem tw5235489822353064017 : True := .intro
theorem tw17108683539139446687 : True := .intro
theorem tw9585716257333346879 : True := .intro
theorem tw258068513420516417 : True := .intro
theorem tw4694576740104000912 : True := .intro
theorem tw16247866065052712126 : True := .intro
theorem tw6315724884485875009 : True := .intro
theorem tw824372137492419445 : True := .intro
theorem tw13147615649231785353 : True := .intro
theorem tw5344244513067970501 : True := .intro
theorem tw16265100136227061818 : True := .intro
theorem tw9725112297395295363 : True := .intro
theorem tw5760956199603725249 : True := .intro
theorem tw9801295669343623870 : True := .intro
theorem tw4030596607366238679 : True := .intro
theorem tw7656121287478928578 : True := .intro
theorem tw7943880842533922792 : True := .intro
theorem tw10500697783292534459 : True := .intro
theorem tw12072260205987263422 : True := .intro
theorem tw2900269179210348485 : True := .intro
theorem tw16518797085395972656 : True := .intro
theorem tw6346454161799999149 : True := .intro
theorem tw13670392969479844760 : True := .intro
theorem tw7696985506095812580 : True := .intro
theorem tw15261440174343931667 : True := .intro
theorem tw9843082451063829651 : True := .intro
theorem tw3025478415739679155 : True := .intro
theorem tw6171231543561195515 : True := .intro
theorem tw16070475857292995099 : True := .intro
theorem tw10231748994234555806 : True := .intro
theorem tw16053337924083988615 : True := .intro
theorem tw10877481757130846756 : True := .intro
theorem tw13059814505917257934 : True := .intro
theorem tw5782739039451438102 : True := .intro
theorem tw13539448296167279669 : True := .intro
theorem tw12216405789099407106 : True := .intro
theorem tw15702132747712863384 : True := .intro
theorem tw16701321514831805801 : True := .intro
theorem tw17132989798488976179 : True := .intro
theorem tw5519276473566439497 : True := .intro
theorem tw8729566342764232174 : True := .intro
theorem tw4791125421056871640 : True := .intro
theorem tw17898885814918844501 : True := .intro
theorem tw16565736771652840871 : True := .intro
theorem tw16723197839899680886 : True := .intro
theorem tw3272375853755735372 : True := .intro
theorem tw3897339666623018051 : True := .intro
theorem tw16722452395585934751 : True := .intro
theorem tw4711721745158331843 : True := .intro
theorem tw5911426464600134419 : True := .intro
theorem tw8075740888732743729 : True := .intro
theorem tw15018097151791679069 : True := .intro
theorem tw15640626066598122359 : True := .intro
theorem tw5160900396782686385 : True := .intro
theorem tw3828798886096674259 : True := .intro
theorem tw9584024588938816598 : True := .intro
theorem tw10888215387565108675 : True := .intro
theorem tw2662114889333062935 : True := .intro
theorem tw10342492603693234948 : True := .intro
theorem tw55955877901766197 : True := .intro
theorem tw14314413065990644894 : True := .intro
theorem tw17416299393804706275 : True := .intro
theorem tw15439646581258886950 : True := .intro
theorem tw16056176915206234143 : True := .intro
theorem tw12999050597183796975 : True := .intro
theorem tw10187523311402913277 : True := .intro
theorem tw259828664030221653 : True := .intro
theorem tw13853903830511566034 : True := .intro
theorem tw11936073465955786083 : True := .intro
theorem tw628742505431204079 : True := .intro
theorem tw11580355090702026936 : True := .intro
theorem tw9007432496540834640 : True := .intro
theorem tw10992551949211102682 : True := .intro
theorem tw16789721586916867558 : True := .intro
theorem tw18266022635697941291 : True := .intro
theorem tw9876782661471542454 : True := .intro
theorem tw12999669766360665941 : True := .intro
theorem tw8115112217140981465 : True := .intro
theorem tw5940206919871119473 : True := .intro
theorem tw1907431628496833416 : True := .intro
theorem tw14996013327608720127 : True := .intro
theorem tw9661974112279485097 : True := .intro
theorem tw2981289018604403506 : True := .intro
theorem tw13530974241067720440 : True := .intro
theorem tw6701132842043363761 : True := .intro
theorem tw2869433251600470352 : True := .intro
theorem tw6737145887563099810 : True := .intro
theorem tw9175965183818312416 : True := .intro
theorem tw4184772061210985942 : True := .intro
theorem tw4749796935882294491 : True := .intro
theorem tw3006898322876857722 : True := .intro
theorem tw17561442692521528838 : True := .intro
theorem tw18128083074316197692 : True := .intro
theorem tw15453582730888812047 : True := .intro
theorem tw10926561772427625520 : True := .intro
theorem tw9894863052698140929 : True := .intro
theorem tw12203116615103960656 : True := .intro
theorem tw9802463483980526916 : True := .intro
theorem tw8651439067147910650 : True := .intro
theorem tw5115838971753334269 : True := .intro
theorem tw5026744934842373545 : True := .intro
theorem tw1107795483308348316 : True := .intro
theorem tw13253768393896303274 : True := .intro
theorem tw4764206676283681750 : True := .intro
theorem tw13837136779394116118 : True := .intro
theorem tw11411704387866567029 : True := .intro
theorem tw3094414279176897967 : True := .intro
theorem tw14807837511261727595 : True := .intro
theorem tw754709017000072637 : True := .intro
theorem tw4571354709507444707 : True := .intro
theorem tw1130592388908294205 : True := .intro
theorem tw17610947397003306201 : True := .intro
theorem tw12382725580513797766 : True := .intro
theorem tw16447109513711021415 : True := .intro
theorem tw4122903878610405738 : True := .intro
theorem tw15919473483253066303 : True := .intro
theorem tw9329902773482468329 : True := .intro
theorem tw8601779515433616348 : True := .intro
theorem tw11342721529044220280 : True := .intro
theorem tw1018937922608030869 : True := .intro
theorem tw8304470376201991431 : True := .intro
theorem tw8523041410490277570 : True := .intro
theorem tw11933652174190214852 : True := .intro
theorem tw17849799850108132646 : True := .intro
theorem tw10272979577203189394 : True := .intro
theorem tw7969367735036281249 : True := .intro
theorem tw15037775548914213803 : True := .intro
theorem tw6379011247047540701 : True := .intro
theorem tw5650795231573151521 : True := .intro
theorem tw7049547784603963770 : True := .intro
theorem tw10237109693047373528 : True := .intro
theorem tw15322295844591655549 : True := .intro
theorem tw18249984683209848164 : True := .intro
theorem tw13905430189192717811 : True := .intro
theorem tw11911767175561585500 : True := .intro
theorem tw3804336058562888080 : True := .intro
theorem tw10928695209934255885 : True := .intro
theorem tw15485391166187889009 : True := .intro
theorem tw15238818962085671641 : True := .intro
theorem tw42102714090209323 : True := .intro
theorem tw3339668953926657346 : True := .intro
theorem tw13922011830532611116 : True := .intro
theorem tw8193243590946194686 : True := .intro
theorem tw11764333106882590332 : True := .intro
theorem tw714842558249869173 : True := .intro
theorem tw14091413971399694507 : True := .intro
theorem tw2924779896813834243 : True := .intro
theorem tw8804956069778035663 : True := .intro
theorem tw8315968228443304233 : True := .intro
theorem tw3932149825524832609 : True := .intro
theorem tw13275685002437907993 : True := .intro
theorem tw12253485221689262136 : True := .intro
theorem tw2633343428348670916 : True := .intro
theorem tw17501981570938745017 : True := .intro
theorem tw15468947366056999944 : True := .intro
theorem tw6563976658576905614 : True := .intro
theorem tw4734635606694096808 : True := .intro
theorem tw4543056600750772298 : True := .intro
theorem tw9124568651790428386 : True := .intro
theorem tw14545090859320499606 : True := .intro
theorem tw7001264725371173269 : True := .intro
theorem tw4416777445013679541 : True := .intro
theorem tw7467773956303150738 : True := .intro
theorem tw15364265762446307618 : True := .intro
theorem tw13751159599406078796 : True := .intro
theorem tw7572500988600137844 : True := .intro
theorem tw9030611723376511113 : True := .intro
theorem tw12492003843801650255 : True := .intro
theorem tw14377754081447250752 : True := .intro
theorem tw1315157727444305535 : True := .intro
theorem tw15110316760913501124 : True := .intro
theorem tw10351221902779846640 : True := .intro
theorem tw9303423642364987461 : True := .intro
theorem tw541108343041452481 : True := .intro
theorem tw993961519088479261 : True := .intro
theorem tw15463135509532605795 : True := .intro
theorem tw10809821990078901484 : True := .intro
theorem tw17024580738928501107 : True := .intro
theorem tw6773011374792733526 : True := .intro
theorem tw12008731313934763978 : True := .intro
theorem tw1584341183244479569 : True := .intro
theorem tw8962739577813523433 : True := .intro
theorem tw1132315704666193923 : True := .intro
theorem tw14546748176596867515 : True := .intro
theorem tw14667562502534909126 : True := .intro
theorem tw15108565010790710555 : True := .intro
theorem tw9252239226615947027 : True := .intro
theorem tw1475793928879664802 : True := .intro
theorem tw14067642295622019669 : True := .intro
theorem tw8663010230956358593 : True := .intro
theorem tw15865785285249652463 : True := .intro
theorem tw10270613489228520515 : True := .intro
theorem tw9519668725777372496 : True := .intro
theorem tw8606546719067047098 : True := .intro
theorem tw16047083559921435669 : True := .intro
theorem tw16315449109323932718 : True := .intro
theorem tw7641403633383815083 : True := .intro
theorem tw11347556378806789500 : True := .intro
theorem tw8286605777846276928 : True := .intro
theorem tw17853145676193187133 : True := .intro
theorem tw5743264719975071144 : True := .intro
theorem tw11474161407743705264 : True := .intro
theorem tw4246127328060349490 : True := .intro
theorem tw13526969555184074883 : True := .intro
theorem tw11728612666952776913 : True := .intro
theorem tw17133766540024134008 : True := .intro
theorem tw5173923373553074260 : True := .intro
theorem tw11135978298661765202 : True := .intro
theorem tw10476229869294313911 : True := .intro
theorem tw13209531939774069038 : True := .intro
theorem tw5132689789100094899 : True := .intro
theorem tw12191674397797842611 : True := .intro
theorem tw14591867714649318954 : True := .intro
theorem tw2958256139275696777 : True := .intro
theorem tw4661435430466468109 : True := .intro
theorem tw6360623170662649961 : True := .intro
theorem tw7036361161814102797 : True := .intro
theorem tw6243635918413439905 : True := .intro
theorem tw191250002330708033 : True := .intro
theorem tw6241158799968928540 : True := .intro
theorem tw2807971801412828372 : True := .intro
theorem tw14735641791222954918 : True := .intro
theorem tw6157109647663047869 : True := .intro
theorem tw2046779160961743033 : True := .intro
theorem tw11125595225594555279 : True := .intro
theorem tw6501231923834532020 : True := .intro
theorem tw3957822191199858305 : True := .intro
theorem tw4709079241339893333 : True := .intro
theorem tw15705188409435843874 : True := .intro
theorem tw9063326267951266292 : True := .intro
theorem tw6862766151258021554 : True := .intro
theorem tw8297103815407066215 : True := .intro
theorem tw16942842317388661802 : True := .intro
theorem tw3995263692687263850 : True := .intro
theorem tw4575773889818169266 : True := .intro
theorem tw5008487680118616336 : True := .intro
theorem tw11482881864467289333 : True := .intro
theorem tw13942959448471183713 : True := .intro
theorem tw7371618353783525210 : True := .intro
theorem tw10994767841081501344 : True := .intro
theorem tw8317332404261762419 : True := .intro
theorem tw16932942797069931410 : True := .intro
theorem tw11801635280662260926 : True := .intro
theorem tw17037247852359437715 : True := .intro
theorem tw12696604709772604392 : True := .intro
theorem tw15186257326010335579 : True := .intro
theorem tw15205901352835665614 : True := .intro
theorem tw6055558469490190961 : True := .intro
theorem tw896678514600534454 : True := .intro
theorem tw64202118813914021 : True := .intro
theorem tw3493668778338630504 : True := .intro
theorem tw1097509227271586770 : True := .intro
theorem tw4703927105302372445 : True := .intro
theorem tw15557713321600640210 : True := .intro
theorem tw17714307086539397666 : True := .intro
theorem tw3500774638023697150 : True := .intro
theorem tw4494890875768603863 : True := .intro
theorem tw10625158656473816115 : True := .intro
theorem tw10681208672833662303 : True := .intro
theorem tw8014122266797325941 : True := .intro
theorem tw15111591012032303855 : True := .intro
theorem tw8132826823543963166 : True := .intro
theorem tw1732275182297143223 : True := .intro
theorem tw2199941059071467972 : True := .intro
theorem tw13460087823605386235 : True := .intro
theorem tw4841467727496801713 : True := .intro
theorem tw13192426110886438385 : True := .intro
theorem tw984611433651564627 : True := .intro
theorem tw207631033488093515 : True := .intro
theorem tw5528191767536132349 : True := .intro
theorem tw15909049001570835537 : True := .intro
theorem tw9114080201859744428 : True := .intro
theorem tw14092670851130970671 : True := .intro
theorem tw15789742654801395174 : True := .intro
theorem tw14748593185504558118 : True := .intro
theorem tw3732806042906609239 : True := .intro
theorem tw15487582221989568464 : True := .intro
theorem tw13450142183601540807 : True := .intro
theorem tw5246182178197263481 : True := .intro
theorem tw16200838856119658284 : True := .intro
theorem tw15545541397920992388 : True := .intro
theorem tw1934856120286140585 : True := .intro
theorem tw6860382125531483832 : True := .intro
theorem tw8544200745215361636 : True := .intro
theorem tw2991953685748087605 : True := .intro
theorem tw5881426953669140494 : True := .intro
theorem tw3309091550851349022 : True := .intro
theorem tw9583250145600815822 : True := .intro
theorem tw8151905975452480897 : True := .intro
theorem tw5801112029918102234 : True := .intro
theorem tw4770481024578186283 : True := .intro
theorem tw2233097637914111 : True := .intro
theorem tw5315974677301689788 : True := .intro
theorem tw16705910848249779334 : True := .intro
theorem tw17321727524097640484 : True := .intro
theorem tw4091948544389088165 : True := .intro
theorem tw16288789403327067063 : True := .intro
theorem tw250719014974230209 : True := .intro
theorem tw9984763306469363634 : True := .intro
theorem tw11791423276717916484 : True := .intro
theorem tw12008095247410234675 : True := .intro
theorem tw408987285158891854 : True := .intro
theorem tw12435994934025682684 : True := .intro
theorem tw5624654650367242590 : True := .intro
theorem tw6715662239175464460 : True := .intro
theorem tw6485447330276077417 : True := .intro
theorem tw17354353771428035587 : True := .intro
theorem tw11653140854052585465 : True := .intro
theorem tw12345845123420250020 : True := .intro
theorem tw10024050330201116100 : True := .intro
theorem tw5619146038311404868 : True := .intro
theorem tw15344449759615591185 : True := .intro
theorem tw5614586655791106998 : True := .intro
theorem tw18072375996646975957 : True := .intro
theorem tw4966743490867724701 : True := .intro
theorem tw2906821536228917775 : True := .intro
theorem tw2195435468080086277 : True := .intro
theorem tw2379276559209039283 : True := .intro
theorem tw16868254412053210016 : True := .intro
theorem tw377729882002094628 : True := .intro
theorem tw7973119592130694376 : True := .intro
theorem tw3578792697769877229 : True := .intro
theorem tw15194199810394091126 : True := .intro
theorem tw3332531723502116496 : True := .intro
theorem tw3532330457635462737 : True := .intro
theorem tw4470192995158533552 : True := .intro
theorem tw9729772234726880335 : True := .intro
theorem tw17758479410508618441 : True := .intro
theorem tw14531732380268105068 : True := .intro
theorem tw16082398841315979679 : True := .intro
theorem tw5419404544470759271 : True := .intro
theorem tw7112880007481187805 : True := .intro
theorem tw8264850109523432760 : True := .intro
theorem tw14617824340747342172 : True := .intro
theorem tw9693931358506437496 : True := .intro
theorem tw12597636386456540584 : True := .intro
theorem tw14707217288593406141 : True := .intro
theorem tw16319847225728049102 : True := .intro
theorem tw6940479767941114460 : True := .intro
theorem tw12765389545972521440 : True := .intro
theorem tw3879529401540888711 : True := .intro
theorem tw12531204270602855071 : True := .intro
theorem tw4142987030346591568 : True := .intro
theorem tw16999891249164246898 : True := .intro
theorem tw6128545486380534215 : True := .intro
theorem tw2997749113495472481 : True := .intro
theorem tw1856957554667849882 : True := .intro
theorem tw6200319235639184739 : True := .intro
theorem tw15107274949421994683 : True := .intro
theorem tw8637026727318969406 : True := .intro
theorem tw15794528940917199651 : True := .intro
theorem tw11837500018324400312 : True := .intro
theorem tw771116109590022945 : True := .intro
theorem tw3220339733331740029 : True := .intro
theorem tw8237268813310586722 : True := .intro
theorem tw5381100662238655436 : True := .intro
theorem tw9346188809975308098 : True := .intro
theorem tw1619247175786215072 : True := .intro
theorem tw13791655629219957161 : True := .intro
theorem tw11561643847653382642 : True := .intro
theorem tw16700416684351015337 : True := .intro
theorem tw11297514716161143630 : True := .intro
theorem tw8216776409417786920 : True := .intro
theorem tw9682786680232018293 : True := .intro
theorem tw3353420980897540404 : True := .intro
theorem tw9264967533390686527 : True := .intro
theorem tw1164651950757373474 : True := .intro
theorem tw12407817636541798716 : True := .intro
theorem tw762589881907573897 : True := .intro
theorem tw9106477682964561207 : True := .intro
theorem tw9719954717683747060 : True := .intro
theorem tw15672379692179261518 : True := .intro
theorem tw11295747354902146467 : True := .intro
theorem tw7240758289875719568 : True := .intro
theorem tw6164011034122194269 : True := .intro
theorem tw16848261896036507092 : True := .intro
theorem tw12796931227738426992 : True := .intro
theorem tw5559203327439365448 : True := .intro
theorem tw5325990072311518049 : True := .intro
theorem tw8757096004693317265 : True := .intro
theorem tw2330512790191863004 : True := .intro
theorem tw2971756668544482404 : True := .intro
theorem tw7217836123002815154 : True := .intro
theorem tw7078766022337701604 : True := .intro
theorem tw16678245255347419563 : True := .intro
theorem tw17671069436837108862 : True := .intro
theorem tw5565820263948902788 : True := .intro
theorem tw3560027224092335074 : True := .intro
theorem tw3448717224072465297 : True := .intro
theorem tw1071263718255546222 : True := .intro
theorem tw8870751061422440019 : True := .intro
theorem tw15393239681569010826 : True := .intro
theorem tw5812196643852337367 : True := .intro
theorem tw17972497761308798894 : True := .intro
theorem tw11104913347935003000 : True := .intro
theorem tw8951369282369291160 : True := .intro
theorem tw17578938784164329086 : True := .intro
theorem tw9593491312965635173 : True := .intro
theorem tw9993418520868940570 : True := .intro
theorem tw3369431856389806596 : True := .intro
theorem tw6915722721465743512 : True := .intro
theorem tw13402861399140573714 : True := .intro
theorem tw5671246285499812970 : True := .intro
theorem tw13870221240275982381 : True := .intro
theorem tw5741392978115523273 : True := .intro
theorem tw12713872609331962371 : True := .intro
theorem tw17261938016684412387 : True := .intro
theorem tw14645638166988158467 : True := .intro
theorem tw5018063789883507944 : True := .intro
theorem tw10762979666452832977 : True := .intro
theorem tw16034040471905414512 : True := .intro
theorem tw2875087686748702901 : True := .intro
theorem tw15068107992827127120 : True := .intro
theorem tw13091917350135890168 : True := .intro
theorem tw3656728111717403182 : True := .intro
theorem tw18311090528735993320 : True := .intro
theorem tw5048120215091252794 : True := .intro
theorem tw2238372460031302079 : True := .intro
theorem tw6300181343099804838 : True := .intro
theorem tw4691319533417946934 : True := .intro
theorem tw18152780857040991276 : True := .intro
theorem tw6795543833310042639 : True := .intro
theorem tw4889233599542589872 : True := .intro
theorem tw11137313770230230190 : True := .intro
theorem tw1676424456127642379 : True := .intro
theorem tw17261649278636274201 : True := .intro
theorem tw16215619990447201804 : True := .intro
theorem tw16812405200169560530 : True := .intro
theorem tw17558493108054855487 : True := .intro
theorem tw5425572204597838287 : True := .intro
theorem tw12710419021253407028 : True := .intro
theorem tw9640414838439327082 : True := .intro
theorem tw693595636087153422 : True := .intro
theorem tw11286638589606258499 : True := .intro
theorem tw15115895181140296544 : True := .intro
theorem tw13839577296087776673 : True := .intro
theorem tw5321929546480753838 : True := .intro
theorem tw17384741294342315021 : True := .intro
theorem tw1206411390120796424 : True := .intro
theorem tw15578504555152718682 : True := .intro
theorem tw4522452503762253510 : True := .intro
theorem tw13799801951269825263 : True := .intro
theorem tw9479154417018379957 : True := .intro
theorem tw3843730352282347451 : True := .intro
theorem tw2280557797322735134 : True := .intro
theorem tw18088835690172881547 : True := .intro
theorem tw16506961300761541333 : True := .intro
theorem tw1888453407852125713 : True := .intro
theorem tw12719326037968399379 : True := .intro
theorem tw11399153253211214809 : True := .intro
theorem tw16969567925386211337 : True := .intro
theorem tw5281472286938024955 : True := .intro
theorem tw5979874767228322812 : True := .intro
theorem tw623512174857195086 : True := .intro
theorem tw1827388889299873213 : True := .intro
theorem tw16596631114541516024 : True := .intro
theorem tw4400304161255820993 : True := .intro
theorem tw9140795546022904917 : True := .intro
theorem tw8918132090948552457 : True := .intro
theorem tw12032201669233521532 : True := .intro
theorem tw5808668902260604032 : True := .intro
theorem tw9366901412208719884 : True := .intro
theorem tw12088803087304081630 : True := .intro
theorem tw12875733954163509956 : True := .intro
theorem tw7548083220465884519 : True := .intro
theorem tw17943712509365370934 : True := .intro
theorem tw6005979442878628793 : True := .intro
theorem tw15457250581695010067 : True := .intro
theorem tw7507893596406482440 : True := .intro
theorem tw8164495294952124332 : True := .intro
theorem tw17225800069629588868 : True := .intro
theorem tw2321956040173406052 : True := .intro
theorem tw17465727820440500956 : True := .intro
theorem tw7269911704707362798 : True := .intro
theorem tw4079879289127476579 : True := .intro
theorem tw6821784630632092561 : True := .intro
theorem tw14313713909052118232 : True := .intro
theorem tw2936301872521414975 : True := .intro
theorem tw2247054254726161806 : True := .intro
theorem tw12969111314377819537 : True := .intro
theorem tw4823995372449465797 : True := .intro
theorem tw8705279418025553424 : True := .intro
theorem tw17542864019463150375 : True := .intro
theorem tw17078331006704969433 : True := .intro
theorem tw13474431069525958618 : True := .intro
theorem tw3348137796762555182 : True := .intro
theorem tw12533807594283929847 : True := .intro
theorem tw17848566443479472663 : True := .intro
theorem tw11353411356146776227 : True := .intro
theorem tw8728485003856222879 : True := .intro
theorem tw11493849948095372406 : True := .intro
theorem tw6387094137777925530 : True := .intro
theorem tw1660891150561016293 : True := .intro
theorem tw13932357198890522576 : True := .intro
theorem tw14048049185075970208 : True := .intro
theorem tw1914834504493243719 : True := .intro
theorem tw3281396001457487129 : True := .intro
theorem tw15059767810395367541 : True := .intro
theorem tw15982007096445310047 : True := .intro
theorem tw15685208121405996242 : True := .intro
theorem tw2455641044240183505 : True := .intro
theorem tw10995524824877434955 : True := .intro
theorem tw6309961945672932129 : True := .intro
theorem tw11884767411710534323 : True := .intro
theorem tw2138093127344408063 : True := .intro
theorem tw10105226420839642677 : True := .intro
theorem tw9944823774592202968 : True := .intro
theorem tw6195628670051165197 : True := .intro
theorem tw16265554460579611638 : True := .intro
theorem tw2817306199543258304 : True := .intro
theorem tw7824231970908984921 : True := .intro
theorem tw12587095545807508848 : True := .intro
theorem tw12562051965932744561 : True := .intro
theorem tw8705782216501111459 : True := .intro
theorem tw6957639954070163659 : True := .intro
theorem tw16274976952936488379 : True := .intro
theorem tw17713666066886779972 : True := .intro
theorem tw1983931698744334106 : True := .intro
theorem tw15828443092521612313 : True := .intro
theorem tw5333395169157217087 : True := .intro
theorem tw13191283258225330012 : True := .intro
theorem tw14470226211204452982 : True := .intro
theorem tw4437854025603899602 : True := .intro
theorem tw9289266483884437502 : True := .intro
theorem tw7670749655620881825 : True := .intro
theorem tw10435226147695920581 : True := .intro
theorem tw10246908198704632940 : True := .intro
theorem tw5100436012171137224 : True := .intro
theorem tw17300459895112785284 : True := .intro
theorem tw758518684258729295 : True := .intro
theorem tw1078189622726184922 : True := .intro
theorem tw7143354361050626469 : True := .intro
theorem tw15108829480740943380 : True := .intro
theorem tw6895326761180009507 : True := .intro
theorem tw6491004040138718054 : True := .intro
theorem tw13226381259776056381 : True := .intro
theorem tw11028623360464345987 : True := .intro
theorem tw5550916177796409185 : True := .intro
theorem tw5427350461442407258 : True := .intro
theorem tw14404715832100029428 : True := .intro
theorem tw1744039600398335632 : True := .intro
theorem tw9536940154378845301 : True := .intro
theorem tw4818250985310962229 : True := .intro
theorem tw3787126057758832721 : True := .intro
theorem tw2926050773474394184 : True := .intro
theorem tw15819812264166744253 : True := .intro
theorem tw6337730426828370364 : True := .intro
theorem tw12433204682316965102 : True := .intro
theorem tw8776333661998798408 : True := .intro
theorem tw7982607462838542841 : True := .intro
theorem tw17972675150016645764 : True := .intro
theorem tw15995760106643996030 : True := .intro
theorem tw7613723845467990972 : True := .intro
theorem tw5217925301304591602 : True := .intro
theorem tw14811881235850187928 : True := .intro
theorem tw610782158009282340 : True := .intro
theorem tw7842455563018450921 : True := .intro
theorem tw11573190062926324903 : True := .intro
theorem tw1543109200645227982 : True := .intro
theorem tw4047864326165667770 : True := .intro
theorem tw8363931578904064496 : True := .intro
theorem tw2297524983540906938 : True := .intro
theorem tw10124105525460516320 : True := .intro
theorem tw4604990723206551195 : True := .intro
theorem tw10196323883586211152 : True := .intro
theorem tw11420302832516307211 : True := .intro
theorem tw3545181970087501857 : True := .intro
theorem tw8594701214999859244 : True := .intro
theorem tw12733468900029838038 : True := .intro
theorem tw5082283422929992080 : True := .intro
theorem tw13285973400298530569 : True := .intro
theorem tw13149653355751419994 : True := .intro
theorem tw11735584948297656204 : True := .intro
theorem tw607901002460412479 : True := .intro
theorem tw11717192330646558380 : True := .intro
theorem tw10179576772429242697 : True := .intro
theorem tw15230310516558674017 : True := .intro
theorem tw6990258741344299030 : True := .intro
theorem tw11948475563663703369 : True := .intro
theorem tw12634012982148644923 : True := .intro
theorem tw193860106429595768 : True := .intro
theorem tw5249203286593904370 : True := .intro
theorem tw3620990427659928547 : True := .intro
theorem tw7374329682787988391 : True := .intro
theorem tw11583458161866600285 : True := .intro
theorem tw14229542273201067215 : True := .intro
theorem tw4214559653407000857 : True := .intro
theorem tw3856537467757788615 : True := .intro
theorem tw12936909505367969103 : True := .intro
theorem tw1941063450431241849 : True := .intro
theorem tw7469322056898479953 : True := .intro
theorem tw3592753389026363331 : True := .intro
theorem tw16332062230192985537 : True := .intro
theorem tw16654864571352608324 : True := .intro
theorem tw1836580902938311859 : True := .intro
theorem tw1185240318808178959 : True := .intro
theorem tw6695365059911909317 : True := .intro
theorem tw13094538316919861918 : True := .intro
theorem tw6708988926863178969 : True := .intro
theorem tw570480564760167965 : True := .intro
theorem tw10207971897495743856 : True := .intro
theorem tw8087127619217983550 : True := .intro
theorem tw159974032005622147 : True := .intro
theorem tw16488816985673612018 : True := .intro
theorem tw17649024638272424832 : True := .intro
theorem tw10207337016809603952 : True := .intro
theorem tw15738409748425815256 : True := .intro
theorem tw12631300463454364067 : True := .intro
theorem tw9172823479331471133 : True := .intro
theorem tw16947212516212351624 : True := .intro
theorem tw14581266090699276713 : True := .intro
theorem tw4728707622230364534 : True := .intro
theorem tw2935733133640920381 : True := .intro
theorem tw9095027038754794990 : True := .intro
theorem tw3407734286051676412 : True := .intro
theorem tw16221544065166442223 : True := .intro
theorem tw773127763490787599 : True := .intro
theorem tw7222031182191029602 : True := .intro
theorem tw352040183359581042 : True := .intro
theorem tw6033857170677905553 : True := .intro
theorem tw9635575524127459117 : True := .intro
theorem tw9705235645950888321 : True := .intro
theorem tw740191235858408959 : True := .intro
theorem tw2086718081531731189 : True := .intro
theorem tw471543497655313035 : True := .intro
theorem tw16530842261003467324 : True := .intro
theorem tw844062160171510205 : True := .intro
theorem tw445409987727988802 : True := .intro
theorem tw9405466989867812632 : True := .intro
theorem tw4818550310055151442 : True := .intro
theorem tw7158962048646566099 : True := .intro
theorem tw6733342318753318817 : True := .intro
theorem tw1318981391635437559 : True := .intro
theorem tw4933020264083796028 : True := .intro
theorem tw16674677697764974619 : True := .intro
theorem tw14839562663430098336 : True := .intro
theorem tw10038073548388557928 : True := .intro
theorem tw8482884235792446566 : True := .intro
theorem tw11282743029974940470 : True := .intro
theorem tw3177949776831279757 : True := .intro
theorem tw15962066876263045231 : True := .intro
theorem tw8826266422609438659 : True := .intro
theorem tw14888596535214387376 : True := .intro
theorem tw10988319032481044380 : True := .intro
theorem tw15680173543815053937 : True := .intro
theorem tw14775892516701864807 : True := .intro
theorem tw15489802136657787121 : True := .intro
theorem tw11928751041670092340 : True := .intro
theorem tw12378970860379475269 : True := .intro
theorem tw411238171536120831 : True := .intro
theorem tw16663770839444872778 : True := .intro
theorem tw10742593678561552477 : True := .intro
theorem tw3484056174269026835 : True := .intro
theorem tw5400334489229220816 : True := .intro
theorem tw3355530456001274190 : True := .intro
theorem tw12811638186887461093 : True := .intro
theorem tw2948506765827441165 : True := .intro
theorem tw8064601413362575554 : True := .intro
theorem tw8296454388943302817 : True := .intro
theorem tw18361402402987684268 : True := .intro
theorem tw14375586720346475973 : True := .intro
theorem tw17553923412870218645 : True := .intro
theorem tw608730862391239330 : True := .intro
theorem tw17429704230156035975 : True := .intro
theorem tw5014011191049088117 : True := .intro
theorem tw16858549429018946421 : True := .intro
theorem tw2015801453299869364 : True := .intro
theorem tw9306698274667837415 : True := .intro
theorem tw15564080111326742176 : True := .intro
theorem tw1821627818815856239 : True := .intro
theorem tw11951782482250927495 : True := .intro
theorem tw14465663207076761424 : True := .intro
theorem tw17261154141364844790 : True := .intro
theorem tw15962609801475075503 : True := .intro
theorem tw13730663753202633405 : True := .intro
theorem tw6882359662654676544 : True := .intro
theorem tw7525402592547941763 : True := .intro
theorem tw84961402791518358 : True := .intro
theorem tw15740897890341713239 : True := .intro
theorem tw8240070410378638234 : True := .intro
theorem tw16181028950226766745 : True := .intro
theorem tw9575396498936569443 : True := .intro
theorem tw14588758787154055955 : True := .intro
theorem tw16567622792884016343 : True := .intro
theorem tw17220499625503906440 : True := .intro
theorem tw3044876563099441655 : True := .intro
theorem tw12744716606977544144 : True := .intro
theorem tw18213805935275758988 : True := .intro
theorem tw1220322430533901976 : True := .intro
theorem tw376393870854220128 : True := .intro
theorem tw12603216615317922776 : True := .intro
theorem tw16375143986660131652 : True := .intro
theorem tw4399367920635989693 : True := .intro
theorem tw7158810263761708874 : True := .intro
theorem tw7925487104985676251 : True := .intro
theorem tw2233738774301888379 : True := .intro
theorem tw7681004137227515211 : True := .intro
theorem tw15037433715699750904 : True := .intro
theorem tw17350432265264141841 : True := .intro
theorem tw17514814420553481359 : True := .intro
theorem tw2499274675696479017 : True := .intro
theorem tw8667968561232290894 : True := .intro
theorem tw17274456106624957074 : True := .intro
theorem tw10895611457329013886 : True := .intro
theorem tw7922886259199148382 : True := .intro
theorem tw15620379023316886541 : True := .intro
theorem tw2256586352513882889 : True := .intro
theorem tw7593698167277658768 : True := .intro
theorem tw4090047804276735515 : True := .intro
theorem tw6101021993124405314 : True := .intro
theorem tw18017799266699299639 : True := .intro
theorem tw7143820852429424563 : True := .intro
theorem tw7388796275479371026 : True := .intro
theorem tw2254162147802685943 : True := .intro
theorem tw7393495212084622947 : True := .intro
theorem tw1925525561976017842 : True := .intro
theorem tw2785149153303205546 : True := .intro
theorem tw12226828409172240385 : True := .intro
theorem tw5551986642266698202 : True := .intro
theorem tw12581837233928890998 : True := .intro
theorem tw17497609396932493165 : True := .intro
theorem tw16620986497647702462 : True := .intro
theorem tw12979021398624293447 : True := .intro
theorem tw11440455527657721003 : True := .intro
theorem tw14743851501936326612 : True := .intro
theorem tw8973245380630562441 : True := .intro
theorem tw13000758399982150679 : True := .intro
theorem tw2142788899404091323 : True := .intro
theorem tw6149129130576257438 : True := .intro
theorem tw15323563002317448552 : True := .intro
theorem tw9322344300297281895 : True := .intro
theorem tw6364104259517495647 : True := .intro
theorem tw15313447939766205750 : True := .intro
theorem tw10820578182567833843 : True := .intro
theorem tw14265926719156004154 : True := .intro
theorem tw14679918227166272782 : True := .intro
theorem tw2328396345374936539 : True := .intro
theorem tw6779096982710141809 : True := .intro
theorem tw10760523484063500989 : True := .intro
theorem tw3358709806735456131 : True := .intro
theorem tw656437892302691559 : True := .intro
theorem tw15529854919931371575 : True := .intro
theorem tw1192881468407829795 : True := .intro
theorem tw1732310545786884812 : True := .intro
theorem tw8645830580437762431 : True := .intro
theorem tw7770130657273971291 : True := .intro
theorem tw2912773966142743740 : True := .intro
theorem tw7225478587587749998 : True := .intro
theorem tw18212571965915690960 : True := .intro
theorem tw2907695176524783056 : True := .intro
theorem tw3094734424043217094 : True := .intro
theorem tw11494753170500534637 : True := .intro
theorem tw8997365784585267455 : True := .intro
theorem tw7367402191921897070 : True := .intro
theorem tw17452358833757180969 : True := .intro
theorem tw3803872534948929460 : True := .intro
theorem tw6510941021012477653 : True := .intro
theorem tw9663192707400107710 : True := .intro
theorem tw18273534106621169415 : True := .intro
theorem tw14626790048521566663 : True := .intro
theorem tw16519357897762988093 : True := .intro
theorem tw8024863209327875199 : True := .intro
theorem tw11236624623801144975 : True := .intro
theorem tw360325877739837252 : True := .intro
theorem tw9255414150125256926 : True := .intro
theorem tw3570580057990421934 : True := .intro
theorem tw13100256624211626227 : True := .intro
theorem tw18301138494040754626 : True := .intro
theorem tw9814685771393995251 : True := .intro
theorem tw14246125770920071784 : True := .intro
theorem tw9267935004859004599 : True := .intro
theorem tw14194591709116700962 : True := .intro
theorem tw12419738638365532841 : True := .intro
theorem tw14653295078883803450 : True := .intro
theorem tw5581289857740789750 : True := .intro
theorem tw15356344630608153648 : True := .intro
theorem tw2070986010338574230 : True := .intro
theorem tw4479317028295327320 : True := .intro
theorem tw6612656852632717756 : True := .intro
theorem tw105357122042010471 : True := .intro
theorem tw8916612007669138900 : True := .intro
theorem tw12534890831533672624 : True := .intro
theorem tw16362996607818016695 : True := .intro
theorem tw7043878057104010793 : True := .intro
theorem tw1319995867784454452 : True := .intro
theorem tw13075082032428055639 : True := .intro
theorem tw638996217706171560 : True := .intro
theorem tw5777910117334949172 : True := .intro
theorem tw12467391168642958939 : True := .intro
theorem tw10983270844649195059 : True := .intro
theorem tw12720816685965156922 : True := .intro
theorem tw11332331873486731093 : True := .intro
theorem tw172268066081194123 : True := .intro
theorem tw5678258778069545850 : True := .intro
theorem tw3216277455072732656 : True := .intro
theorem tw2613850417964799333 : True := .intro
theorem tw8559390032763230599 : True := .intro
theorem tw7388580042574561330 : True := .intro
theorem tw1331285149663924952 : True := .intro
theorem tw17816704775591544791 : True := .intro
theorem tw3015331039267593727 : True := .intro
theorem tw5490155166796894952 : True := .intro
theorem tw5962200792664082009 : True := .intro
theorem tw14538549061766585484 : True := .intro
theorem tw7123570587928414866 : True := .intro
theorem tw16926457826054745632 : True := .intro
theorem tw4187813399465506156 : True := .intro
theorem tw14240782410412540254 : True := .intro
theorem tw10819333410333079904 : True := .intro
theorem tw17012579216647883310 : True := .intro
theorem tw17182941315634134746 : True := .intro
theorem tw3764196263055644281 : True := .intro
theorem tw14168210239186449687 : True := .intro
theorem tw10771303492487231477 : True := .intro
theorem tw4038144072620480541 : True := .intro
theorem tw1813990170713182850 : True := .intro
theorem tw8109210525291115368 : True := .intro
theorem tw10474177181944006925 : True := .intro
theorem tw1606129457447812686 : True := .intro
theorem tw13905247288660441640 : True := .intro
theorem tw16157979489563160697 : True := .intro
theorem tw6848600785420753043 : True := .intro
theorem tw115615262289490463 : True := .intro
theorem tw1896037514428385131 : True := .intro
theorem tw11661030051197918695 : True := .intro
theorem tw8103420974123489578 : True := .intro
theorem tw1163142514165850694 : True := .intro
theorem tw1459333583477328095 : True := .intro
theorem tw4705799343213059460 : True := .intro
theorem tw1861874594762798266 : True := .intro
theorem tw9776076010333747328 : True := .intro
theorem tw6145656382677424358 : True := .intro
theorem tw6586076129417449762 : True := .intro
theorem tw4766074254707941566 : True := .intro
theorem tw15868339046513149873 : True := .intro
theorem tw16465698596768721477 : True := .intro
theorem tw6393760398677993402 : True := .intro
theorem tw7714564593662026561 : True := .intro
theorem tw12850244615026875478 : True := .intro
theorem tw10305362181550306776 : True := .intro
theorem tw2087362172771426911 : True := .intro
theorem tw1283364748551110136 : True := .intro
theorem tw12028537367114327855 : True := .intro
theorem tw14071920890583569470 : True := .intro
theorem tw15800156603295993979 : True := .intro
theorem tw16917492653384358376 : True := .intro
theorem tw2741719187791720973 : True := .intro
theorem tw12104931117407318865 : True := .intro
theorem tw18336878694020257905 : True := .intro
theorem tw14624964323025576588 : True := .intro
theorem tw3677230566780374961 : True := .intro
theorem tw5686084248861113461 : True := .intro
theorem tw16037954032741175897 : True := .intro
theorem tw8332895922082305463 : True := .intro
theorem tw4984264404420505850 : True := .intro
theorem tw16680184891313281202 : True := .intro
theorem tw1890637854310189421 : True := .intro
theorem tw8337826807914280428 : True := .intro
theorem tw4412714638360670517 : True := .intro
theorem tw11221579129977894038 : True := .intro
theorem tw6541503421797363084 : True := .intro
theorem tw12091193090692502048 : True := .intro
theorem tw15817346687568922226 : True := .intro
theorem tw11393193378303181232 : True := .intro
theorem tw18391796012507419662 : True := .intro
theorem tw13138475063095443148 : True := .intro
theorem tw17876032744171642570 : True := .intro
theorem tw10598558370192388651 : True := .intro
theorem tw16356770378720639063 : True := .intro
theorem tw11881774987852432901 : True := .intro
theorem tw16774606294484890175 : True := .intro
theorem tw10980010521775137314 : True := .intro
theorem tw15948364481695765639 : True := .intro
theorem tw15202652519140697139 : True := .intro
theorem tw14203291551896502367 : True := .intro
theorem tw5272892657545002162 : True := .intro
theorem tw16021479474472321611 : True := .intro
theorem tw1299692451300156808 : True := .intro
theorem tw15179784937967859264 : True := .intro
theorem tw7288667811970653689 : True := .intro
theorem tw3170212333953425626 : True := .intro
theorem tw298477160947912495 : True := .intro
theorem tw16515700374996835753 : True := .intro
theorem tw3322340881724935685 : True := .intro
theorem tw396587053700639855 : True := .intro
theorem tw18218851603506496550 : True := .intro
theorem tw6458257662358464309 : True := .intro
theorem tw3723314469697554242 : True := .intro
theorem tw6174918979328490058 : True := .intro
theorem tw17084334640302140026 : True := .intro
theorem tw9814643252880369219 : True := .intro
theorem tw3073047383245819820 : True := .intro
theorem tw6969412624431353266 : True := .intro
theorem tw7483270784941343816 : True := .intro
theorem tw14497848664919809936 : True := .intro
theorem tw5664648851177618665 : True := .intro
theorem tw10039899406196403619 : True := .intro
theorem tw2060491988172902216 : True := .intro
theorem tw10269317768285253803 : True := .intro
theorem tw16014804126050867224 : True := .intro
theorem tw12569139807951691982 : True := .intro
theorem tw2260214757736380114 : True := .intro
theorem tw24894112390168518 : True := .intro
theorem tw13488762366357785715 : True := .intro
theorem tw5902624353131768010 : True := .intro
theorem tw9623948476540087964 : True := .intro
theorem tw1501494330743260334 : True := .intro
theorem tw2946708551794928461 : True := .intro
theorem tw5002161642320650738 : True := .intro
theorem tw12117766641578990995 : True := .intro
theorem tw13840795858019711048 : True := .intro
theorem tw13480599445729979620 : True := .intro
theorem tw13966585631609172548 : True := .intro
theorem tw14010298586831639616 : True := .intro
theorem tw16249411907718491354 : True := .intro
theorem tw16686162887447154199 : True := .intro
theorem tw4485568120380111226 : True := .intro
theorem tw8069220086299445866 : True := .intro
theorem tw1633335519626759781 : True := .intro
theorem tw13373754551974604587 : True := .intro
theorem tw2354652986626483515 : True := .intro
theorem tw15415446024084899157 : True := .intro
theorem tw1134787977486151588 : True := .intro
theorem tw15357293858413729038 : True := .intro
theorem tw221532149006753345 : True := .intro
theorem tw11804665643207147083 : True := .intro
theorem tw1736729717191391184 : True := .intro
theorem tw10482309601821597295 : True := .intro
theorem tw8559719390991142570 : True := .intro
theorem tw12190851780145394505 : True := .intro
theorem tw3710208536301702690 : True := .intro
theorem tw10585246792689428834 : True := .intro
theorem tw14259167575075893158 : True := .intro
theorem tw14264360779975899951 : True := .intro
theorem tw10959339930153004333 : True := .intro
theorem tw13715486755541002204 : True := .intro
theorem tw2341540426250796116 : True := .intro
theorem tw9813979456596180972 : True := .intro
theorem tw9727134877918230138 : True := .intro
theorem tw16575117494081981083 : True := .intro
theorem tw17437742479248107 : True := .intro
theorem tw2618273668430389367 : True := .intro
theorem tw14708202189682653562 : True := .intro
theorem tw14439038981153311809 : True := .intro
theorem tw16985480493841592258 : True := .intro
theorem tw15868780829107115256 : True := .intro
theorem tw10396990035440580648 : True := .intro
theorem tw4407311477536883226 : True := .intro
theorem tw7881828889584817118 : True := .intro
theorem tw7620147113043645158 : True := .intro
theorem tw10058373195080032333 : True := .intro
theorem tw8857568661534875433 : True := .intro
theorem tw1141017789866156138 : True := .intro
theorem tw17654799793269910447 : True := .intro
theorem tw2607929043689959679 : True := .intro
theorem tw1371495223713722506 : True := .intro
theorem tw8382289346971354909 : True := .intro
theorem tw17900033212904858568 : True := .intro
theorem tw6417983079654487106 : True := .intro
theorem tw9255377186015787905 : True := .intro
theorem tw11525890424861084614 : True := .intro
theorem tw6230062927697309655 : True := .intro
theorem tw5400876794573064288 : True := .intro
theorem tw13562049659597112811 : True := .intro
theorem tw10459771091559908529 : True := .intro
theorem tw3714260147962774541 : True := .intro
theorem tw520497546373041576 : True := .intro
theorem tw14254776736718386322 : True := .intro
theorem tw8242830806565180107 : True := .intro
theorem tw13270376624921428850 : True := .intro
theorem tw13681416780022454627 : True := .intro
theorem tw5370484761039597323 : True := .intro
theorem tw9917738461849045689 : True := .intro
theorem tw18085278194351433243 : True := .intro
theorem tw18035643405075865624 : True := .intro
theorem tw9272615828558376931 : True := .intro
theorem tw12453466102651751193 : True := .intro
theorem tw191892271978147826 : True := .intro
theorem tw1004815136612797256 : True := .intro
theorem tw5065418693956394006 : True := .intro
theorem tw8438818168057454244 : True := .intro
theorem tw15621731105112327899 : True := .intro
theorem tw5046139996062828155 : True := .intro
theorem tw7933128466358781960 : True := .intro
theorem tw17218922071772592635 : True := .intro
theorem tw12518373314194612341 : True := .intro
theorem tw16835440189183211182 : True := .intro
theorem tw18172951482353998244 : True := .intro
theorem tw7553638423487668006 : True := .intro
theorem tw7068503420766744240 : True := .intro
theorem tw13380504763508466436 : True := .intro
theorem tw8298888014508362580 : True := .intro
theorem tw8962873818941064785 : True := .intro
theorem tw14125818389987919597 : True := .intro
theorem tw12078703860944657530 : True := .intro
theorem tw12452402144063856112 : True := .intro
theorem tw6250749003267028452 : True := .intro
theorem tw16343975892651999236 : True := .intro
theorem tw16564201701147190115 : True := .intro
theorem tw10428745041790126048 : True := .intro
theorem tw13775317667527557126 : True := .intro
theorem tw12913998417090579744 : True := .intro
theorem tw7059021780196936722 : True := .intro
theorem tw17756790574179189193 : True := .intro
theorem tw16985592610739727075 : True := .intro
theorem tw14701484860228008778 : True := .intro
theorem tw3040806418466174290 : True := .intro
theorem tw12271581833730540368 : True := .intro
theorem tw8638875198054990224 : True := .intro
theorem tw8804111592453361386 : True := .intro
theorem tw16095276355016925023 : True := .intro
theorem tw6307220823187415435 : True := .intro
theorem tw471560136662005695 : True := .intro
theorem tw2997604523448752658 : True := .intro
theorem tw781033063527258392 : True := .intro
theorem tw7829278390602973796 : True := .intro
theorem tw5967773365824953402 : True := .intro
theorem tw3071500057224013628 : True := .intro
theorem tw14425013773701578883 : True := .intro
theorem tw11718941520461915685 : True := .intro
theorem tw12931427680163566030 : True := .intro
theorem tw10240723936050461325 : True := .intro
theorem tw6180613028750137259 : True := .intro
theorem tw4917710246143285104 : True := .intro
theorem tw11257021457466134362 : True := .intro
theorem tw6571723974239335290 : True := .intro
theorem tw6518677700036452959 : True := .intro
theorem tw3080228535388066518 : True := .intro
theorem tw7564613430116557315 : True := .intro
theorem tw3750709681705802236 : True := .intro
theorem tw18181599321130592744 : True := .intro
theorem tw426444773256987427 : True := .intro
theorem tw5829033501098955105 : True := .intro
theorem tw8703490699683462828 : True := .intro
theorem tw5071534497019525730 : True := .intro
theorem tw3460765964596540127 : True := .intro
theorem tw4945463020092450583 : True := .intro
theorem tw1870772929984529937 : True := .intro
theorem tw9496142334787457915 : True := .intro
theorem tw20443382382608134 : True := .intro
theorem tw1720677164774415465 : True := .intro
theorem tw9009086832237402253 : True := .intro
theorem tw5818674329978506794 : True := .intro
theorem tw245995476047027776 : True := .intro
theorem tw625778997522315157 : True := .intro
theorem tw11075735170478120428 : True := .intro
theorem tw260153518836152231 : True := .intro
theorem tw8867248637102458193 : True := .intro
theorem tw16100870300710796428 : True := .intro
theorem tw13571393677286015784 : True := .intro
theorem tw17786528496682808544 : True := .intro
theorem tw5501391385320422426 : True := .intro
theorem tw18413263919385456497 : True := .intro
theorem tw22959694690670630 : True := .intro
theorem tw17700716297432524223 : True := .intro
theorem tw18192271852485253732 : True := .intro
theorem tw17748022908722064155 : True := .intro
theorem tw14631597407523976535 : True := .intro
theorem tw8061680355931352324 : True := .intro
theorem tw14395665492554484229 : True := .intro
theorem tw9855242616721793800 : True := .intro
theorem tw1432290417691078085 : True := .intro
theorem tw15824492012405390176 : True := .intro
theorem tw17451832407799003648 : True := .intro
theorem tw9810915077382674404 : True := .intro
theorem tw15524608783209927579 : True := .intro
theorem tw13644565329025862790 : True := .intro
theorem tw13441439276847020381 : True := .intro
theorem tw3179670747728259209 : True := .intro
theorem tw18385292393484086509 : True := .intro
theorem tw11350822009347094269 : True := .intro
theorem tw6429763782059020680 : True := .intro
theorem tw6666860386973383326 : True := .intro
theorem tw15114179875149097766 : True := .intro
theorem tw14545991320855677801 : True := .intro
theorem tw18063501205773513246 : True := .intro
theorem tw14372265438042225274 : True := .intro
theorem tw4449646947824152332 : True := .intro
theorem tw2064411406429740364 : True := .intro
theorem tw2188217010628333324 : True := .intro
theorem tw6811708907285902223 : True := .intro
theorem tw5105137484538346448 : True := .intro
theorem tw8585508878711976810 : True := .intro
theorem tw16336790450341999797 : True := .intro
theorem tw8578779665938009860 : True := .intro
theorem tw1860907733284775578 : True := .intro
theorem tw1175793991637799847 : True := .intro
theorem tw9548707955618485706 : True := .intro
theorem tw3142630396848455570 : True := .intro
theorem tw6371320097684804502 : True := .intro
theorem tw2511069863324841705 : True := .intro
theorem tw8472172984394344402 : True := .intro
theorem tw722621860807621284 : True := .intro
theorem tw15790868236746821482 : True := .intro
theorem tw3772203475009408246 : True := .intro
theorem tw10581260071639146729 : True := .intro
theorem tw886996996360142553 : True := .intro
theorem tw2480580608434491516 : True := .intro
theorem tw4909342252072014944 : True := .intro
theorem tw9902783115615247035 : True := .intro
theorem tw1946881425772185686 : True := .intro
theorem tw8812564851786863514 : True := .intro
theorem tw15841236213230524110 : True := .intro
theorem tw3076962657874856361 : True := .intro
theorem tw10056865462283610395 : True := .intro
theorem tw6515903250742298313 : True := .intro
theorem tw4736963056802419713 : True := .intro
theorem tw9021682864596268910 : True := .intro
theorem tw16743423068330604945 : True := .intro
theorem tw5346542815960610518 : True := .intro
theorem tw5824121728468743149 : True := .intro
theorem tw1607899432126327695 : True := .intro
theorem tw12634275763647740957 : True := .intro
theorem tw6244401556584310724 : True := .intro
theorem tw10424820781644007443 : True := .intro
theorem tw8729138000311167850 : True := .intro
theorem tw13432125834849950200 : True := .intro
theorem tw962866579731024780 : True := .intro
theorem tw4681612964948305608 : True := .intro
theorem tw11398399316512749962 : True := .intro
theorem tw14807399348948459796 : True := .intro
theorem tw1372343392781911946 : True := .intro
theorem tw21022513030162006 : True := .intro
theorem tw8877339270559794643 : True := .intro
theorem tw5747822072663227622 : True := .intro
theorem tw3403109766319596591 : True := .intro
theorem tw11505274627528315445 : True := .intro
theorem tw10253321430568208516 : True := .intro
theorem tw18421140771123209918 : True := .intro
theorem tw8349210733670446531 : True := .intro
theorem tw9564428526594369726 : True := .intro
theorem tw11552590401292655767 : True := .intro
theorem tw12023210560888260299 : True := .intro
theorem tw9070401563593471185 : True := .intro
theorem tw4867908380588539891 : True := .intro
theorem tw10274365434157828876 : True := .intro
theorem tw16310662264684859174 : True := .intro
theorem tw3255914668487975126 : True := .intro
theorem tw13540572174256586468 : True := .intro
theorem tw10503710432892627828 : True := .intro
theorem tw15752314536706570884 : True := .intro
theorem tw10211775714385811924 : True := .intro
theorem tw227132606508254801 : True := .intro
theorem tw2229107658921294199 : True := .intro
theorem tw5800217512854327843 : True := .intro
theorem tw8432810072119853288 : True := .intro
theorem tw4224240211603823813 : True := .intro
theorem tw4266654819659375987 : True := .intro
theorem tw2178282417736213580 : True := .intro
theorem tw4524981191032189586 : True := .intro
theorem tw596661333428534056 : True := .intro
theorem tw11864839082477365332 : True := .intro
theorem tw6586583804211527438 : True := .intro
theorem tw6255491855824298769 : True := .intro
theorem tw2022360730518585920 : True := .intro
theorem tw17752008177789986119 : True := .intro
theorem tw4832474012250152555 : True := .intro
theorem tw18443212686800527440 : True := .intro
theorem tw18232801326870238560 : True := .intro
theorem tw16538633181027921783 : True := .intro
theorem tw8284782033385197617 : True := .intro
theorem tw7789305414196011233 : True := .intro
theorem tw12569131963304375909 : True := .intro
theorem tw8744348306477316373 : True := .intro
theorem tw15925000872687277064 : True := .intro
theorem tw8295930044625855301 : True := .intro
theorem tw5933671676217825864 : True := .intro
theorem tw14866955618127382860 : True := .intro
theorem tw6391096854448927255 : True := .intro
theorem tw3502639616227628494 : True := .intro
theorem tw5860550914210874406 : True := .intro
theorem tw21242502383205055 : True := .intro
theorem tw5565518874401315614 : True := .intro
theorem tw4338283337444955329 : True := .intro
theorem tw538134828529874680 : True := .intro
theorem tw2675053271116118740 : True := .intro
theorem tw16309353531692631610 : True := .intro
theorem tw11705545380962538786 : True := .intro
theorem tw7155878111296980657 : True := .intro
theorem tw11431616731539794565 : True := .intro
theorem tw4229923663577508527 : True := .intro
theorem tw3537246596512610198 : True := .intro
theorem tw13679564404862679290 : True := .intro
theorem tw17097255156310554268 : True := .intro
theorem tw13410166645892768366 : True := .intro
theorem tw1190316855298197449 : True := .intro
theorem tw4254804433726164237 : True := .intro
theorem tw5696769038799415070 : True := .intro
theorem tw976370699393349352 : True := .intro
theorem tw7143708197816639027 : True := .intro
theorem tw16143849460719180265 : True := .intro
theorem tw8748674543921272362 : True := .intro
theorem tw7797950415067772999 : True := .intro
theorem tw16348033892586415355 : True := .intro
theorem tw14014869076945323138 : True := .intro
theorem tw12291663892258628142 : True := .intro
theorem tw608032184099979962 : True := .intro
theorem tw12645279814325322183 : True := .intro
theorem tw12953238559073115056 : True := .intro
theorem tw13293154449991279110 : True := .intro
theorem tw8090872993980370321 : True := .intro
theorem tw11476157040967765531 : True := .intro
theorem tw3159788322110901766 : True := .intro
theorem tw7975756937695120869 : True := .intro
theorem tw15418338752206883620 : True := .intro
theorem tw15461873428468430844 : True := .intro
theorem tw17635196294060989712 : True := .intro
theorem tw12222276826211935843 : True := .intro
theorem tw6812948473585325137 : True := .intro
theorem tw9572611864602985708 : True := .intro
theorem tw13109565915298577288 : True := .intro
theorem tw5871288105230710570 : True := .intro
theorem tw10395601360155574926 : True := .intro
theorem tw17700385666390948534 : True := .intro
theorem tw14959087835291730604 : True := .intro
theorem tw5073434331348731508 : True := .intro
theorem tw2902183894802367432 : True := .intro
theorem tw1093011436225373570 : True := .intro
theorem tw9595260250068032834 : True := .intro
theorem tw5860031002721911161 : True := .intro
theorem tw77320144492125351 : True := .intro
theorem tw572413910660234189 : True := .intro
theorem tw15961517952702299156 : True := .intro
theorem tw17110941798183491417 : True := .intro
theorem tw6598618864605482110 : True := .intro
theorem tw11292465309349627764 : True := .intro
theorem tw14771879982081461054 : True := .intro
theorem tw6082891603858236560 : True := .intro
theorem tw7274717259072549392 : True := .intro
theorem tw5490754629199223952 : True := .intro
theorem tw16881229803945538717 : True := .intro
theorem tw2387717902556816340 : True := .intro
theorem tw4516792199140228905 : True := .intro
theorem tw5481803031684668427 : True := .intro
theorem tw9222349770821975401 : True := .intro
theorem tw6951574613124620899 : True := .intro
theorem tw11952370629158403155 : True := .intro
theorem tw15150700439181574775 : True := .intro
theorem tw15709466301670227122 : True := .intro
theorem tw14828008584415383367 : True := .intro
theorem tw12661518970215947722 : True := .intro
theorem tw10475759681358483443 : True := .intro
theorem tw4522386952936571087 : True := .intro
theorem tw7849520922221986062 : True := .intro
theorem tw17287359098335971672 : True := .intro
theorem tw11458537999611339435 : True := .intro
theorem tw13327407482735596263 : True := .intro
theorem tw8964172284225979937 : True := .intro
theorem tw16853329991891923440 : True := .intro
theorem tw3418644044334027121 : True := .intro
theorem tw78365435183596616 : True := .intro
theorem tw7847607015017064909 : True := .intro
theorem tw4840314285383029597 : True := .intro
theorem tw3565538688994751423 : True := .intro
theorem tw5471059047539684231 : True := .intro
theorem tw13675894606924235546 : True := .intro
theorem tw6813749195092922389 : True := .intro
theorem tw3083520413220247040 : True := .intro
theorem tw1946955053026245948 : True := .intro
theorem tw2879494458648794484 : True := .intro
theorem tw2096981176423634215 : True := .intro
theorem tw5534212091928693806 : True := .intro
theorem tw393392942150899813 : True := .intro
theorem tw1014336012805264674 : True := .intro
theorem tw340437149608524519 : True := .intro
theorem tw5660556918592345980 : True := .intro
theorem tw974531699830907753 : True := .intro
theorem tw16557417289227013530 : True := .intro
theorem tw17203783175865877061 : True := .intro
theorem tw14140211264133723210 : True := .intro
theorem tw16627282769641815779 : True := .intro
theorem tw16115335634692743574 : True := .intro
theorem tw7817588206823975566 : True := .intro
theorem tw9666997482283133260 : True := .intro
theorem tw1398006249208524532 : True := .intro
theorem tw12195785267813673264 : True := .intro
theorem tw10763906409063562920 : True := .intro
theorem tw14732163601131194587 : True := .intro
theorem tw12107886360397825280 : True := .intro
theorem tw13704587462445268257 : True := .intro
theorem tw1054897233341867592 : True := .intro
theorem tw3726177421982124715 : True := .intro
theorem tw1834710807705213589 : True := .intro
theorem tw137247891590243384 : True := .intro
theorem tw3857865090488920021 : True := .intro
theorem tw8843611636227319214 : True := .intro
theorem tw9515008994182560731 : True := .intro
theorem tw1500767981750121530 : True := .intro
theorem tw16081908367108621090 : True := .intro
theorem tw7502918886994179527 : True := .intro
theorem tw14051967533312541439 : True := .intro
theorem tw13507595821631683508 : True := .intro
theorem tw13521254160926356116 : True := .intro
theorem tw8872923300368891223 : True := .intro
theorem tw12272621271204753750 : True := .intro
theorem tw14553284962442417568 : True := .intro
theorem tw8473836991213747172 : True := .intro
theorem tw14190773636006434846 : True := .intro
theorem tw3074061719738414462 : True := .intro
theorem tw5742658595411364870 : True := .intro
theorem tw4772280453216995426 : True := .intro
theorem tw2762203161489020651 : True := .intro
theorem tw15645536984753553748 : True := .intro
theorem tw999613900490358796 : True := .intro
theorem tw8733440629686920613 : True := .intro
theorem tw419491745539157038 : True := .intro
theorem tw16619090163600945061 : True := .intro
theorem tw11934129666120162231 : True := .intro
theorem tw7830095923002635790 : True := .intro
theorem tw4085624007641117367 : True := .intro
theorem tw9606974402644688505 : True := .intro
theorem tw15261836638325843517 : True := .intro
theorem tw3560456742691267986 : True := .intro
theorem tw3736564775089566130 : True := .intro
theorem tw1366958537204268564 : True := .intro
theorem tw13785256108308183608 : True := .intro
theorem tw8058735158730125661 : True := .intro
theorem tw1241584885913405757 : True := .intro
theorem tw14467643280474317379 : True := .intro
theorem tw7820246415709072429 : True := .intro
theorem tw13677021455507491421 : True := .intro
theorem tw15620077994299869842 : True := .intro
theorem tw11170062493140618500 : True := .intro
theorem tw8293501393792337557 : True := .intro
theorem tw3643123577461929435 : True := .intro
theorem tw5419484654824172631 : True := .intro
theorem tw2925254486998394040 : True := .intro
theorem tw13056611709353241561 : True := .intro
theorem tw12571881294732077563 : True := .intro
theorem tw14655818856978792913 : True := .intro
theorem tw605728630252678418 : True := .intro
theorem tw6129427067326672381 : True := .intro
theorem tw10530024831661857872 : True := .intro
theorem tw13978555766589292249 : True := .intro
theorem tw4031332499644709703 : True := .intro
theorem tw8406766557647829231 : True := .intro
theorem tw12531915945174479816 : True := .intro
theorem tw252408265475589197 : True := .intro
theorem tw4997956684428307154 : True := .intro
theorem tw5048236416437579678 : True := .intro
theorem tw15853609075005676013 : True := .intro
theorem tw13232572920508664670 : True := .intro
theorem tw3934267403773670779 : True := .intro
theorem tw9457378510489649802 : True := .intro
theorem tw8850401423634078748 : True := .intro
theorem tw7105467753305270621 : True := .intro
theorem tw11866268205335077348 : True := .intro
theorem tw3061779905580110931 : True := .intro
theorem tw12122349763512416086 : True := .intro
theorem tw8787676480473760372 : True := .intro
theorem tw9900225358222852747 : True := .intro
theorem tw9412400169550617691 : True := .intro
theorem tw18336389604448813044 : True := .intro
theorem tw9162100697498717378 : True := .intro
theorem tw191800504225473228 : True := .intro
theorem tw2257641414818468223 : True := .intro
theorem tw17965279944358845975 : True := .intro
theorem tw511683518170323112 : True := .intro
theorem tw15149359755354695258 : True := .intro
theorem tw18310982953192920416 : True := .intro
theorem tw17546169919903122462 : True := .intro
theorem tw5018016743579973466 : True := .intro
theorem tw17966402140582107864 : True := .intro
theorem tw15472797920408763017 : True := .intro
theorem tw3864421826649608156 : True := .intro
theorem tw4273480821140466079 : True := .intro
theorem tw4661338945520888918 : True := .intro
theorem tw16158514559106371992 : True := .intro
theorem tw17439302366248680158 : True := .intro
theorem tw17193414790675517385 : True := .intro
theorem tw1526879916821591397 : True := .intro
theorem tw2266087092323912213 : True := .intro
theorem tw16428680475131979586 : True := .intro
theorem tw3042128663149975342 : True := .intro
theorem tw15178680128337650191 : True := .intro
theorem tw4914624386247269241 : True := .intro
theorem tw1710919649374929740 : True := .intro
theorem tw8524062055308000011 : True := .intro
theorem tw5128990165018601231 : True := .intro
theorem tw7090125024407596862 : True := .intro
theorem tw5875687403692599026 : True := .intro
theorem tw2595724733172306510 : True := .intro
theorem tw1982854261479866988 : True := .intro
theorem tw8296765728027329401 : True := .intro
theorem tw9516477020571265229 : True := .intro
theorem tw3884296945471731256 : True := .intro
theorem tw5612256951959116619 : True := .intro
theorem tw10531253265219333873 : True := .intro
theorem tw12408289421554427497 : True := .intro
theorem tw16229783459483830929 : True := .intro
theorem tw763865807304537335 : True := .intro
theorem tw3161068733652478208 : True := .intro
theorem tw4378415251334391228 : True := .intro
theorem tw5634075940773519093 : True := .intro
theorem tw4173420624300990893 : True := .intro
theorem tw10819281707616449934 : True := .intro
theorem tw79326865940930015 : True := .intro
theorem tw9650132066065228971 : True := .intro
theorem tw4012412986947613519 : True := .intro
theorem tw8834721686931734204 : True := .intro
theorem tw7488125710094632928 : True := .intro
theorem tw7612897181179351201 : True := .intro
theorem tw9005028071951415594 : True := .intro
theorem tw17597907506900003411 : True := .intro
theorem tw180134673519964940 : True := .intro
theorem tw12814506869232808795 : True := .intro
theorem tw7729057227162849630 : True := .intro
theorem tw16183661028250894606 : True := .intro
theorem tw847108387944953854 : True := .intro
theorem tw6768965349191146473 : True := .intro
theorem tw11663011398542069136 : True := .intro
theorem tw1521208404950627435 : True := .intro
theorem tw15552783294123678105 : True := .intro
theorem tw11971849210173680400 : True := .intro
theorem tw1262944133652792095 : True := .intro
theorem tw13637022466477211106 : True := .intro
theorem tw14017374700257891977 : True := .intro
theorem tw770874391622208723 : True := .intro
theorem tw16049357342424095499 : True := .intro
theorem tw4082197580314922179 : True := .intro
theorem tw17151465835622050169 : True := .intro
theorem tw8940940478292081248 : True := .intro
theorem tw6916152291048630410 : True := .intro
theorem tw14345627696173857756 : True := .intro
theorem tw9727332412858781622 : True := .intro
theorem tw13683080463471061259 : True := .intro
theorem tw2084963461767615014 : True := .intro
theorem tw7155060992058813579 : True := .intro
theorem tw633123431685051263 : True := .intro
theorem tw431629749041846373 : True := .intro
theorem tw855665566739418130 : True := .intro
theorem tw9484354976691580497 : True := .intro
theorem tw1890811277200578582 : True := .intro
theorem tw9859057801529280581 : True := .intro
theorem tw12524712125532629538 : True := .intro
theorem tw11668917931906221387 : True := .intro
theorem tw17332606559254652184 : True := .intro
theorem tw299615068059297897 : True := .intro
theorem tw12282598969970456157 : True := .intro
theorem tw1519605623417085760 : True := .intro
theorem tw4714843072495362539 : True := .intro
theorem tw13176709389059305210 : True := .intro
theorem tw4160068378109425801 : True := .intro
theorem tw11563684483403672066 : True := .intro
theorem tw5181959461030701442 : True := .intro
theorem tw13031269707938512117 : True := .intro
theorem tw12134530506235215105 : True := .intro
theorem tw8516802717743682052 : True := .intro
theorem tw6584027715806565694 : True := .intro
theorem tw7850006843976781016 : True := .intro
theorem tw3265179761474092065 : True := .intro
theorem tw6086153653993848925 : True := .intro
theorem tw7962512325894236213 : True := .intro
theorem tw12696146308503300597 : True := .intro
theorem tw5558640999927389088 : True := .intro
theorem tw15435355018710402445 : True := .intro
theorem tw12718582392318547827 : True := .intro
theorem tw8474346692561337362 : True := .intro
theorem tw9914845627969348651 : True := .intro
theorem tw15278803232330960647 : True := .intro
theorem tw6058545789150770669 : True := .intro
theorem tw8557014477975887212 : True := .intro
theorem tw7853333270411722820 : True := .intro
theorem tw11188545115537676630 : True := .intro
theorem tw13239061325720016626 : True := .intro
theorem tw15205212857530702745 : True := .intro
theorem tw13064004189647115717 : True := .intro
theorem tw2978237897526234780 : True := .intro
theorem tw16344980660708151344 : True := .intro
theorem tw1231186737138590911 : True := .intro
theorem tw3977143359910154190 : True := .intro
theorem tw11749258516268523191 : True := .intro
theorem tw16160446324010373893 : True := .intro
theorem tw2463352077982384976 : True := .intro
theorem tw12296965231402326145 : True := .intro
theorem tw13495874644330986827 : True := .intro
theorem tw18091172111210518708 : True := .intro
theorem tw7353625374410852440 : True := .intro
theorem tw9499775063954822071 : True := .intro
theorem tw896302730425465146 : True := .intro
theorem tw6481324770823476272 : True := .intro
theorem tw1611833233426158109 : True := .intro
theorem tw51337009125741998 : True := .intro
theorem tw6622912661134367744 : True := .intro
theorem tw7928335123166952581 : True := .intro
theorem tw7140325354423094703 : True := .intro
theorem tw8474710838865841345 : True := .intro
theorem tw8413119861387051982 : True := .intro
theorem tw10395330354484189469 : True := .intro
theorem tw2081468128678040796 : True := .intro
theorem tw365971848591594381 : True := .intro
theorem tw8033061152644118848 : True := .intro
theorem tw8095877278846020519 : True := .intro
theorem tw3757122406484443045 : True := .intro
theorem tw3522684050701423628 : True := .intro
theorem tw12037289170812726898 : True := .intro
theorem tw6620567890787372968 : True := .intro
theorem tw6994296114071452164 : True := .intro
theorem tw8848896600961975426 : True := .intro
theorem tw13688889282856844856 : True := .intro
theorem tw5249055814299896691 : True := .intro
theorem tw10549834433142143809 : True := .intro
theorem tw6900649555046803906 : True := .intro
theorem tw17687315799694542860 : True := .intro
theorem tw12625269042542533832 : True := .intro
theorem tw16926491304952696851 : True := .intro
theorem tw12364556627854713592 : True := .intro
theorem tw7501072803918962560 : True := .intro
theorem tw199402057648739623 : True := .intro
theorem tw12873542747202422818 : True := .intro
theorem tw10853760856580461126 : True := .intro
theorem tw1601767924607306417 : True := .intro
theorem tw4384306527826889051 : True := .intro
theorem tw9622870829703849095 : True := .intro
theorem tw2927504993206779545 : True := .intro
theorem tw4146718083828570040 : True := .intro
theorem tw15511192141236404897 : True := .intro
theorem tw191689076675348359 : True := .intro
theorem tw7963384646658722533 : True := .intro
theorem tw18232657522279204060 : True := .intro
theorem tw17202763800965842795 : True := .intro
theorem tw15623484737069589920 : True := .intro
theorem tw4342616335148847695 : True := .intro
theorem tw14709254588541916327 : True := .intro
theorem tw11532420004149083565 : True := .intro
theorem tw1785356758731166785 : True := .intro
theorem tw7102245275533113692 : True := .intro
theorem tw13771774177888662679 : True := .intro
theorem tw8676231397119622152 : True := .intro
theorem tw8991764048281904255 : True := .intro
theorem tw1087448044899155535 : True := .intro
theorem tw5147773755063497982 : True := .intro
theorem tw4852087190588385936 : True := .intro
theorem tw16591280223419763342 : True := .intro
theorem tw10732916393441588551 : True := .intro
theorem tw6331021893428921752 : True := .intro
theorem tw9755005253385878529 : True := .intro
theorem tw12100207738315445826 : True := .intro
theorem tw3217507195259262442 : True := .intro
theorem tw13087824046310193473 : True := .intro
theorem tw6704169414894219026 : True := .intro
theorem tw17543235260165097766 : True := .intro
theorem tw2025935467450247960 : True := .intro
theorem tw2534641574706399896 : True := .intro
theorem tw13709816893231007776 : True := .intro
theorem tw13686799779505935238 : True := .intro
theorem tw2787896531059922396 : True := .intro
theorem tw16967567910577494090 : True := .intro
theorem tw3092035455699886108 : True := .intro
theorem tw18335952483339916367 : True := .intro
theorem tw9627413983910353126 : True := .intro
theorem tw13035287693404204644 : True := .intro
theorem tw16878339429118064309 : True := .intro
theorem tw9700983384177341647 : True := .intro
theorem tw600101444252011579 : True := .intro
theorem tw6819123862412449150 : True := .intro
theorem tw17334737047693828775 : True := .intro
theorem tw11428551877849425717 : True := .intro
theorem tw3693285564883427152 : True := .intro
theorem tw9045269791635141218 : True := .intro
theorem tw8089537072555676523 : True := .intro
theorem tw8239433939849729608 : True := .intro
theorem tw2458923500593218587 : True := .intro
theorem tw9401853304517120743 : True := .intro
theorem tw1216596915503997864 : True := .intro
theorem tw5672849608082543538 : True := .intro
theorem tw10881360719811841535 : True := .intro
theorem tw2478761446211216955 : True := .intro
theorem tw12212708935207448231 : True := .intro
theorem tw15412037037468723324 : True := .intro
theorem tw2519279451371939568 : True := .intro
theorem tw9469233900432548713 : True := .intro
theorem tw10199692594639700303 : True := .intro
theorem tw15173164417310148181 : True := .intro
theorem tw1818597935219987265 : True := .intro
theorem tw13672530321122415400 : True := .intro
theorem tw3191620626794583833 : True := .intro
theorem tw16604195374220669857 : True := .intro
theorem tw691937694526348666 : True := .intro
theorem tw463607187915161587 : True := .intro
theorem tw10363946125900105496 : True := .intro
theorem tw7863416033725854284 : True := .intro
theorem tw15257050111902952495 : True := .intro
theorem tw6791992644558423860 : True := .intro
theorem tw9866085034189953266 : True := .intro
theorem tw18047170419526133865 : True := .intro
theorem tw2288275619874870352 : True := .intro
theorem tw7278812700167408935 : True := .intro
theorem tw13122032611913405167 : True := .intro
theorem tw2190600002579730358 : True := .intro
theorem tw7442165270254812960 : True := .intro
theorem tw2792564397185489303 : True := .intro
theorem tw1942530620542081943 : True := .intro
theorem tw2785239473010702583 : True := .intro
theorem tw6759415743195353105 : True := .intro
theorem tw13594540843285218541 : True := .intro
theorem tw4291317647370684501 : True := .intro
theorem tw17890505019536285494 : True := .intro
theorem tw13761441132590594076 : True := .intro
theorem tw16406497942284415031 : True := .intro
theorem tw10133039474983423464 : True := .intro
theorem tw6276690364428803794 : True := .intro
theorem tw3112384982642758531 : True := .intro
theorem tw11319967559159806945 : True := .intro
theorem tw5635984311460792821 : True := .intro
theorem tw2519538964011717698 : True := .intro
theorem tw3105985664493186941 : True := .intro
theorem tw11856806304869122206 : True := .intro
theorem tw8702001282517656733 : True := .intro
theorem tw9889230882160083004 : True := .intro
theorem tw2446243782787823983 : True := .intro
theorem tw3790806026377879352 : True := .intro
theorem tw840490391982787860 : True := .intro
theorem tw4047729798197750090 : True := .intro
theorem tw17358689191516229670 : True := .intro
theorem tw9107268518574754277 : True := .intro
theorem tw6939032120501638946 : True := .intro
theorem tw5864808403270076647 : True := .intro
theorem tw943015570499100452 : True := .intro
theorem tw2103554337785794430 : True := .intro
theorem tw1517560014447614327 : True := .intro
theorem tw9222427124888380253 : True := .intro
theorem tw12294490971469903435 : True := .intro
theorem tw14549643814727318141 : True := .intro
theorem tw8828295192794842405 : True := .intro
theorem tw17887375103260328852 : True := .intro
theorem tw7449795178664684678 : True := .intro
theorem tw18158505267506006151 : True := .intro
theorem tw673177224293863266 : True := .intro
theorem tw7214432371385445692 : True := .intro
theorem tw13982754398991438397 : True := .intro
theorem tw1411592887091524215 : True := .intro
theorem tw5943422265808389730 : True := .intro
theorem tw15518399503242757839 : True := .intro
theorem tw5252989446216589741 : True := .intro
theorem tw167458488699559899 : True := .intro
theorem tw16015880917114919397 : True := .intro
theorem tw1433652677172453470 : True := .intro
theorem tw14390547576575096731 : True := .intro
theorem tw2933781799880272996 : True := .intro
theorem tw1685815024617649212 : True := .intro
theorem tw4875713240537118139 : True := .intro
theorem tw8055911338729339045 : True := .intro
theorem tw10845021837528955484 : True := .intro
theorem tw14645424166904380248 : True := .intro
theorem tw17147402772472324447 : True := .intro
theorem tw8920576195278469064 : True := .intro
theorem tw13916248977416363000 : True := .intro
theorem tw3469658870699455551 : True := .intro
theorem tw5260750649562324005 : True := .intro
theorem tw11815870171614503338 : True := .intro
theorem tw1227417859303178363 : True := .intro
theorem tw1196113787499597956 : True := .intro
theorem tw3103425011058123077 : True := .intro
theorem tw6964235866583611655 : True := .intro
theorem tw6894351005563940433 : True := .intro
theorem tw17578694189513564188 : True := .intro
theorem tw5773721816414587431 : True := .intro
theorem tw15958535028793297909 : True := .intro
theorem tw11310025018527888322 : True := .intro
end PySem.W.Fast
open PySem PySem.W PyProof.Rows
set_option maxHeartbeats 0
open_top K26.hd for PySem.Challenge.rw_filerights_k26_deciding_entries
theorem PySem.Challenge.cw_filerights_k26_deciding_entries_holds : PySem.Challenge.rw_filerights_k26_deciding_entries.Holds := by
  refine K26.hd ?_
  k_fill
  refine L2.walk_of (l := PySem.Challenge.rw_filerights_k26_deciding_entries) (n := 63) (k := 13) (x := "_law_script") (CX := fun _ => L2.CX0) (sp := fun w => K26.spLaw _) rfl (by decide) rfl ⟨rfl, by decide, by decide⟩ (fun w h Y => PySem.W.kIn_of Y) ?F (fun _ _ a ns hl _ hS => ⟨a, ns, rfl, hS, hl, fun _ => rfl⟩) (fun _ _ _ _ _ h => h)
  case F =>
    intro w mg fa h KX G hmg
    refine' K26.all_mk KX G hmg ?oa0 ?opg0 ?ohd0 ?opo0 ?osa0 ?omk0 ?okc0 ?oca0 ?ocn0 ?oct0 ?ocm0 ?osf0 ?ocd0 ?omr0 ?one0 ?ona_digit0 ?onfstr0 ?ord0 ?org0 ?oic0 ?oyt0 ?oktstr0 ?oa1 ?opg1 ?ohd1 ?opo1 ?osa1 ?omk1 ?okc1 ?oca1 ?ocn1 ?oct1 ?ocm1 ?osf1 ?ocd1 ?omr1 ?one1 ?ona_owner1 ?ona_group1 ?ona_other1 ?ona_users1 ?ona_groups1 ?ona_mask1 ?ord1 ?org1 ?oic1 ?oyt1 ?oa2 ?opg2 ?ohd2 ?opo2 ?osa2 ?omk2 ?okc2 ?oca2 ?ocn2 ?oct2 ?ocm2 ?osf2 ?ocd2 ?omr2 ?one2 ?ona_held2 ?ona_groups2 ?ord2 ?org2 ?oic2 ?oyt2 ?oa3 ?opg3 ?ohd3 ?opo3 ?osa3 ?omk3 ?okc3 ?oca3 ?ocn3 ?oct3 ?ocm3 ?osf3 ?ocd3 ?omr3 ?one3 ?ona_people3 ?ord3 ?org3 ?oic3 ?oyt3 ?a0 ?l0 ?c0 ?k0 ?a1 ?l1 ?c1 ?k1 ?a2 ?l2 ?c2 ?k2 ?a3 ?l3 ?c3 ?k3 ?a4 ?l4 ?c4 ?k4 ?a5 ?l5 ?c5 ?k5 ?a6 ?l6 ?c6 ?k6 ?a7 ?l7 ?c7 ?k7 ?a8 ?l8 ?c8 ?k8 ?a9 ?l9 ?c9 ?k9 ?a10 ?l10 ?c10 ?k10 ?a11 ?l11 ?c11 ?k11 ?a12 ?l12 ?c12 ?k12 ?a13 ?l13 ?c13 ?k13 ?a14 ?l14 ?c14 ?k14 ?a15 ?l15 ?c15 ?k15 ?a16 ?l16 ?c16 ?k16 ?a17 ?l17 ?c17 ?k17 ?a18 ?l18 ?c18 ?k18 ?a19 ?l19 ?c19 ?k19 ?a20 ?l20 ?c20 ?k20 ?a21 ?l21 ?c21 ?k21 ?a22 ?l22 ?c22 ?k22 ?a23 ?l23 ?c23 ?k23 ?a24 ?l24 ?c24 ?k24 ?a25 ?l25 ?c25 ?k25 ?a26 ?l26 ?c26 ?k26 ?a27 ?l27 ?c27 ?k27 ?a28 ?l28 ?c28 ?k28 ?a29 ?l29 ?c29 ?k29 ?a30 ?t30 ?l30 ?c30 ?k30 ?dl30 ?dd30 ?dv30 ?a31 ?px31 ?pf31 ?l31 ?c31 ?k31 ?a32 ?px32 ?pf32 ?l32 ?c32 ?k32 ?a33 ?pg33 ?pt33 ?px33 ?l33 ?c33 ?k33 ?a36 ?t36 ?l36 ?c36 ?k36 ?a41 ?t41 ?l41 ?c41 ?k41 ?a47 ?t47 ?l47 ?c47 ?k47 ?w47_0 ?w47_1 ?w47_2 ?a48 ?t48 ?l48 ?c48 ?k48 ?a52 ?pg52 ?pt52 ?px52 ?l52 ?c52 ?k52 ?a53 ?pg53 ?pt53 ?px53 ?l53 ?c53 ?k53 ?a54 ?pg54 ?pt54 ?px54 ?l54 ?c54 ?k54 ?a55 ?pg55 ?pt55 ?px55 ?l55 ?c55 ?k55 ?a58 ?t58 ?l58 ?c58 ?k58 ?a59 ?t59 ?l59 ?c59 ?k59 ?a60 ?t60 ?l60 ?c60 ?k60 ?a71 ?t71 ?l71 ?c71 ?k71 ?a73 ?t73 ?l73 ?c73 ?k73 ?a74 ?t74 ?l74 ?c74 ?k74 ?a77 ?t77 ?l77 ?c77 ?k77 ?a81 ?t81 ?l81 ?c81 ?k81 ?a82 ?t82 ?l82 ?c82 ?k82 ?a83 ?t83 ?l83 ?c83 ?k83 ?a84 ?t84 ?l84 ?c84 ?k84 ?a85 ?t85 ?l85 ?c85 ?k85 ?q0 ?q1 ?q2 ?q3 ?kl3 ?ky3 ?ks3 ?kv3_0 ?kv3_1 ?kv3_2 ?kv3_3 ?kv3_4 ?kv3_5 ?kv3_6 ?kv3_7 ?kv3_8 ?kv3_9 ?kv3_10 ?kv3_11 ?kv3_12 ?kv3_13 ?kv3_14 ?kv3_15 ?q4 ?kl4 ?ku4 ?kd4 ?kz4 ?kv4 ?q5 ?q6 ?kl6 ?ky6 ?ks6 ?kv6_0 ?kv6_1 ?kv6_2 ?kv6_3 ?kv6_4 ?kv6_5 ?q7 ?q8 ?z0 ?z1 ?z2 ?z3 ?z4 ?z5 ?z6 ?z7 ?z8 ?z9 ?z10 ?z11 ?z12 ?z13 ?z14 ?z15
    (case oa0 => k_is)
    (case opg0 => k_is)
    (case ohd0 => k_is)
    (case opo0 => k_is)
    (case osa0 => k_is)
    (case omk0 => first | k_is | exact (by rfl) | exact FR.size_le (by decide) | decide | (repeat (first | exact True.intro | exact .nil | refine .cons ⟨_, rfl⟩ ?_ | refine ⟨⟨_, _, rfl, rfl⟩, ?_⟩)))
    (case okc0 => k_is)
    (case oca0 => k_is)
    (case ocn0 => k_is)
    (case oct0 => k_is)
    (case ocm0 => k_is)
    (case osf0 => k_is)
    (case ocd0 => k_is)
    (case omr0 => first | k_is | exact (by rfl) | exact FR.size_le (by decide) | decide | (repeat (first | exact True.intro | exact .nil | refine .cons ⟨_, rfl⟩ ?_ | refine ⟨⟨_, _, rfl, rfl⟩, ?_⟩)))
    (case one0 => k_is)
    (case ona_digit0 => k_is)
    (case onfstr0 => k_is)
    (case ord0 => k_is)
    (case org0 => k_is)
    (case oic0 => k_is)
    (case oyt0 => k_is)
    (case oktstr0 => k_is)
    (case oa1 => k_is)
    (case opg1 => k_is)
    (case ohd1 => k_is)
    (case opo1 => k_is)
    (case osa1 => k_is)
    (case omk1 => first | k_is | exact (by rfl) | exact FR.size_le (by decide) | decide | (repeat (first | exact True.intro | exact .nil | refine .cons ⟨_, rfl⟩ ?_ | refine ⟨⟨_, _, rfl, rfl⟩, ?_⟩)))
    (case okc1 => k_is)
    (case oca1 => k_is)
    (case ocn1 => k_is)
    (case oct1 => k_is)
    (case ocm1 => k_is)
    (case osf1 => k_is)
    (case ocd1 => k_is)
    (case omr1 => first | k_is | exact (by rfl) | exact FR.size_le (by decide) | decide | (repeat (first | exact True.intro | exact .nil | refine .cons ⟨_, rfl⟩ ?_ | refine ⟨⟨_, _, rfl, rfl⟩, ?_⟩)))
    (case one1 => k_is)
    (case ona_owner1 => k_is)
    (case ona_group1 => k_is)
    (case ona_other1 => k_is)
    (case ona_users1 => k_is)
    (case ona_groups1 => k_is)
    (case ona_mask1 => k_is)
    (case ord1 => k_is)
    (case org1 => k_is)
    (case oic1 => k_is)
    (case oyt1 => k_is)
    (case oa2 => k_is)
    (case opg2 => k_is)
    (case ohd2 => k_is)
    (case opo2 => k_is)
    (case osa2 => k_is)
    (case omk2 => first | k_is | exact (by rfl) | exact FR.size_le (by decide) | decide | (repeat (first | exact True.intro | exact .nil | refine .cons ⟨_, rfl⟩ ?_ | refine ⟨⟨_, _, rfl, rfl⟩, ?_⟩)))
    (case okc2 => k_is)
    (case oca2 => k_is)
    (case ocn2 => k_is)
    (case oct2 => k_is)
    (case ocm2 => k_is)
    (case osf2 => k_is)
    (case ocd2 => k_is)
    (case omr2 => first | k_is | exact (by rfl) | exact FR.size_le (by decide) | decide | (repeat (first | exact True.intro | exact .nil | refine .cons ⟨_, rfl⟩ ?_ | refine ⟨⟨_, _, rfl, rfl⟩, ?_⟩)))
    (case one2 => k_is)
    (case ona_held2 => k_is)
    (case ona_groups2 => k_is)
    (case ord2 => k_is)
    (case org2 => k_is)
    (case oic2 => k_is)
    (case oyt2 => k_is)
    (case oa3 => k_is)
    (case opg3 => k_is)
    (case ohd3 => k_is)
    (case opo3 => k_is)
    (case osa3 => k_is)
    (case omk3 => first | k_is | exact (by rfl) | exact FR.size_le (by decide) | decide | (repeat (first | exact True.intro | exact .nil | refine .cons ⟨_, rfl⟩ ?_ | refine ⟨⟨_, _, rfl, rfl⟩, ?_⟩)))
    (case okc3 => k_is)
    (case oca3 => k_is)
    (case ocn3 => k_is)
    (case oct3 => k_is)
    (case ocm3 => k_is)
    (case osf3 => k_is)
    (case ocd3 => k_is)
    (case omr3 => first | k_is | exact (by rfl) | exact FR.size_le (by decide) | decide | (repeat (first | exact True.intro | exact .nil | refine .cons ⟨_, rfl⟩ ?_ | refine ⟨⟨_, _, rfl, rfl⟩, ?_⟩)))
    (case one3 => k_is)
    (case ona_people3 => k_is)
    (case ord3 => k_is)
    (case org3 => k_is)
    (case oic3 => k_is)
    (case oyt3 => k_is)
    (case a0 => k_is)
    (case l0 => k_is)
    (case c0 => k_is)
    (case k0 => k_is)
    (case a1 => k_is)
    (case l1 => k_is)
    (case c1 => k_is)
    (case k1 => k_is)
    (case a2 => k_is)
    (case l2 => k_is)
    (case c2 => k_is)
    (case k2 => k_is)
    (case a3 => k_is)
    (case l3 => k_is)
    (case c3 => k_is)
    (case k3 => k_is)
    (case a4 => k_is)
    (case l4 => k_is)
    (case c4 => k_is)
    (case k4 => k_is)
    (case a5 => k_is)
    (case l5 => k_is)
    (case c5 => k_is)
    (case k5 => k_is)
    (case a6 => k_is)
    (case l6 => k_is)
    (case c6 => k_is)
    (case k6 => k_is)
    (case a7 => k_is)
    (case l7 => k_is)
    (case c7 => k_is)
    (case k7 => k_is)
    (case a8 => k_is)
    (case l8 => k_is)
    (case c8 => k_is)
    (case k8 => k_is)
    (case a9 => k_is)
    (case l9 => k_is)
    (case c9 => k_is)
    (case k9 => k_is)
    (case a10 => k_is)
    (case l10 => k_is)
    (case c10 => k_is)
    (case k10 => k_is)
    (case a11 => k_is)
    (case l11 => k_is)
    (case c11 => k_is)
    (case k11 => k_is)
    (case a12 => k_is)
    (case l12 => k_is)
    (case c12 => k_is)
    (case k12 => k_is)
    (case a13 => k_is)
    (case l13 => k_is)
    (case c13 => k_is)
    (case k13 => k_is)
    (case a14 => k_is)
    (case l14 => k_is)
    (case c14 => k_is)
    (case k14 => k_is)
    (case a15 => k_is)
    (case l15 => k_is)
    (case c15 => k_is)
    (case k15 => k_is)
    (case a16 => k_is)
    (case l16 => k_is)
    (case c16 => k_is)
    (case k16 => k_is)
    (case a17 => k_is)
    (case l17 => k_is)
    (case c17 => k_is)
    (case k17 => k_is)
    (case a18 => k_is)
    (case l18 => k_is)
    (case c18 => k_is)
    (case k18 => k_is)
    (case a19 => k_is)
    (case l19 => k_is)
    (case c19 => k_is)
    (case k19 => k_is)
    (case a20 => k_is)
    (case l20 => k_is)
    (case c20 => k_is)
    (case k20 => k_is)
    (case a21 => k_is)
    (case l21 => k_is)
    (case c21 => k_is)
    (case k21 => k_is)
    (case a22 => k_is)
    (case l22 => k_is)
    (case c22 => k_is)
    (case k22 => k_is)
    (case a23 => k_is)
    (case l23 => k_is)
    (case c23 => k_is)
    (case k23 => k_is)
    (case a24 => k_is)
    (case l24 => k_is)
    (case c24 => k_is)
    (case k24 => k_is)
    (case a25 => k_is)
    (case l25 => k_is)
    (case c25 => k_is)
    (case k25 => k_is)
    (case a26 => k_is)
    (case l26 => k_is)
    (case c26 => k_is)
    (case k26 => k_is)
    (case a27 => k_is)
    (case l27 => k_is)
    (case c27 => k_is)
    (case k27 => k_is)
    (case a28 => k_is)
    (case l28 => k_is)
    (case c28 => k_is)
    (case k28 => k_is)
    (case a29 => k_is)
    (case l29 => k_is)
    (case c29 => k_is)
    (case k29 => k_is)
    (case a30 => k_is)
    (case t30 => k_is)
    (case l30 => k_is)
    (case c30 => k_is)
    (case k30 => k_is)
    (case dl30 => k_is)
    (case dd30 => first | k_is | exact (by rfl) | exact FR.size_le (by decide) | decide | (repeat (first | exact True.intro | exact .nil | refine .cons ⟨_, rfl⟩ ?_ | refine ⟨⟨_, _, rfl, rfl⟩, ?_⟩)))
    (case dv30 => first | k_is | exact (by rfl) | exact FR.size_le (by decide) | decide | (repeat (first | exact True.intro | exact .nil | refine .cons ⟨_, rfl⟩ ?_ | refine ⟨⟨_, _, rfl, rfl⟩, ?_⟩)))
    (case a31 => k_is)
    (case px31 => k_is)
    (case pf31 => k_is)
    (case l31 => k_is)
    (case c31 => k_is)
    (case k31 => k_is)
    (case a32 => k_is)
    (case px32 => k_is)
    (case pf32 => k_is)
    (case l32 => k_is)
    (case c32 => k_is)
    (case k32 => k_is)
    (case a33 => k_is)
    (case pg33 => k_is)
    (case pt33 => k_is)
    (case px33 => k_is)
    (case l33 => k_is)
    (case c33 => k_is)
    (case k33 => k_is)
    (case a36 => k_is)
    (case t36 => k_is)
    (case l36 => k_is)
    (case c36 => k_is)
    (case k36 => k_is)
    (case a41 => k_is)
    (case t41 => k_is)
    (case l41 => k_is)
    (case c41 => k_is)
    (case k41 => k_is)
    (case a47 => k_is)
    (case t47 => k_is)
    (case l47 => k_is)
    (case c47 => k_is)
    (case k47 => k_is)
    (case w47_0 => k_is)
    (case w47_1 => k_is)
    (case w47_2 => k_is)
    (case a48 => k_is)
    (case t48 => k_is)
    (case l48 => k_is)
    (case c48 => k_is)
    (case k48 => k_is)
    (case a52 => k_is)
    (case pg52 => k_is)
    (case pt52 => k_is)
    (case px52 => k_is)
    (case l52 => k_is)
    (case c52 => k_is)
    (case k52 => k_is)
    (case a53 => k_is)
    (case pg53 => k_is)
    (case pt53 => k_is)
    (case px53 => k_is)
    (case l53 => k_is)
    (case c53 => k_is)
    (case k53 => k_is)
    (case a54 => k_is)
    (case pg54 => k_is)
    (case pt54 => k_is)
    (case px54 => k_is)
    (case l54 => k_is)
    (case c54 => k_is)
    (case k54 => k_is)
    (case a55 => k_is)
    (case pg55 => k_is)
    (case pt55 => k_is)
    (case px55 => k_is)
    (case l55 => k_is)
    (case c55 => k_is)
    (case k55 => k_is)
    (case a58 => k_is)
    (case t58 => k_is)
    (case l58 => k_is)
    (case c58 => k_is)
    (case k58 => k_is)
    (case a59 => k_is)
    (case t59 => k_is)
    (case l59 => k_is)
    (case c59 => k_is)
    (case k59 => k_is)
    (case a60 => k_is)
    (case t60 => k_is)
    (case l60 => k_is)
    (case c60 => k_is)
    (case k60 => k_is)
    (case a71 => k_is)
    (case t71 => k_is)
    (case l71 => k_is)
    (case c71 => k_is)
    (case k71 => k_is)
    (case a73 => k_is)
    (case t73 => k_is)
    (case l73 => k_is)
    (case c73 => k_is)
    (case k73 => k_is)
    (case a74 => k_is)
    (case t74 => k_is)
    (case l74 => k_is)
    (case c74 => k_is)
    (case k74 => k_is)
    (case a77 => k_is)
    (case t77 => k_is)
    (case l77 => k_is)
    (case c77 => k_is)
    (case k77 => k_is)
    (case a81 => k_is)
    (case t81 => k_is)
    (case l81 => k_is)
    (case c81 => k_is)
    (case k81 => k_is)
    (case a82 => k_is)
    (case t82 => k_is)
    (case l82 => k_is)
    (case c82 => k_is)
    (case k82 => k_is)
    (case a83 => k_is)
    (case t83 => k_is)
    (case l83 => k_is)
    (case c83 => k_is)
    (case k83 => k_is)
    (case a84 => k_is)
    (case t84 => k_is)
    (case l84 => k_is)
    (case c84 => k_is)
    (case k84 => k_is)
    (case a85 => k_is)
    (case t85 => k_is)
    (case l85 => k_is)
    (case c85 => k_is)
    (case k85 => k_is)
    (case q0 => k_is)
    (case q1 => k_is)
    (case q2 => k_is)
    (case q3 => k_is)
    (case kl3 => k_is)
    (case ky3 => first | k_is | exact (by rfl) | exact FR.size_le (by decide) | decide | (repeat (first | exact True.intro | exact .nil | refine .cons ⟨_, rfl⟩ ?_ | refine ⟨⟨_, _, rfl, rfl⟩, ?_⟩)))
    (case ks3 => first | k_is | exact (by rfl) | exact FR.size_le (by decide) | decide | (repeat (first | exact True.intro | exact .nil | refine .cons ⟨_, rfl⟩ ?_ | refine ⟨⟨_, _, rfl, rfl⟩, ?_⟩)))
    (case kv3_0 => first | k_is | exact (by rfl) | exact FR.size_le (by decide) | decide | (repeat (first | exact True.intro | exact .nil | refine .cons ⟨_, rfl⟩ ?_ | refine ⟨⟨_, _, rfl, rfl⟩, ?_⟩)))
    (case kv3_1 => first | k_is | exact (by rfl) | exact FR.size_le (by decide) | decide | (repeat (first | exact True.intro | exact .nil | refine .cons ⟨_, rfl⟩ ?_ | refine ⟨⟨_, _, rfl, rfl⟩, ?_⟩)))
    (case kv3_2 => first | k_is | exact (by rfl) | exact FR.size_le (by decide) | decide | (repeat (first | exact True.intro | exact .nil | refine .cons ⟨_, rfl⟩ ?_ | refine ⟨⟨_, _, rfl, rfl⟩, ?_⟩)))
    (case kv3_3 => first | k_is | exact (by rfl) | exact FR.size_le (by decide) | decide | (repeat (first | exact True.intro | exact .nil | refine .cons ⟨_, rfl⟩ ?_ | refine ⟨⟨_, _, rfl, rfl⟩, ?_⟩)))
    (case kv3_4 => first | k_is | exact (by rfl) | exact FR.size_le (by decide) | decide | (repeat (first | exact True.intro | exact .nil | refine .cons ⟨_, rfl⟩ ?_ | refine ⟨⟨_, _, rfl, rfl⟩, ?_⟩)))
    (case kv3_5 => first | k_is | exact (by rfl) | exact FR.size_le (by decide) | decide | (repeat (first | exact True.intro | exact .nil | refine .cons ⟨_, rfl⟩ ?_ | refine ⟨⟨_, _, rfl, rfl⟩, ?_⟩)))
    (case kv3_6 => first | k_is | exact (by rfl) | exact FR.size_le (by decide) | decide | (repeat (first | exact True.intro | exact .nil | refine .cons ⟨_, rfl⟩ ?_ | refine ⟨⟨_, _, rfl, rfl⟩, ?_⟩)))
    (case kv3_7 => first | k_is | exact (by rfl) | exact FR.size_le (by decide) | decide | (repeat (first | exact True.intro | exact .nil | refine .cons ⟨_, rfl⟩ ?_ | refine ⟨⟨_, _, rfl, rfl⟩, ?_⟩)))
    (case kv3_8 => first | k_is | exact (by rfl) | exact FR.size_le (by decide) | decide | (repeat (first | exact True.intro | exact .nil | refine .cons ⟨_, rfl⟩ ?_ | refine ⟨⟨_, _, rfl, rfl⟩, ?_⟩)))
    (case kv3_9 => first | k_is | exact (by rfl) | exact FR.size_le (by decide) | decide | (repeat (first | exact True.intro | exact .nil | refine .cons ⟨_, rfl⟩ ?_ | refine ⟨⟨_, _, rfl, rfl⟩, ?_⟩)))
    (case kv3_10 => first | k_is | exact (by rfl) | exact FR.size_le (by decide) | decide | (repeat (first | exact True.intro | exact .nil | refine .cons ⟨_, rfl⟩ ?_ | refine ⟨⟨_, _, rfl, rfl⟩, ?_⟩)))
    (case kv3_11 => first | k_is | exact (by rfl) | exact FR.size_le (by decide) | decide | (repeat (first | exact True.intro | exact .nil | refine .cons ⟨_, rfl⟩ ?_ | refine ⟨⟨_, _, rfl, rfl⟩, ?_⟩)))
    (case kv3_12 => first | k_is | exact (by rfl) | exact FR.size_le (by decide) | decide | (repeat (first | exact True.intro | exact .nil | refine .cons ⟨_, rfl⟩ ?_ | refine ⟨⟨_, _, rfl, rfl⟩, ?_⟩)))
    (case kv3_13 => first | k_is | exact (by rfl) | exact FR.size_le (by decide) | decide | (repeat (first | exact True.intro | exact .nil | refine .cons ⟨_, rfl⟩ ?_ | refine ⟨⟨_, _, rfl, rfl⟩, ?_⟩)))
    (case kv3_14 => first | k_is | exact (by rfl) | exact FR.size_le (by decide) | decide | (repeat (first | exact True.intro | exact .nil | refine .cons ⟨_, rfl⟩ ?_ | refine ⟨⟨_, _, rfl, rfl⟩, ?_⟩)))
    (case kv3_15 => first | k_is | exact (by rfl) | exact FR.size_le (by decide) | decide | (repeat (first | exact True.intro | exact .nil | refine .cons ⟨_, rfl⟩ ?_ | refine ⟨⟨_, _, rfl, rfl⟩, ?_⟩)))
    (case q4 => k_is)
    (case kl4 => k_is)
    (case ku4 => first | k_is | exact (by rfl) | exact FR.size_le (by decide) | decide | (repeat (first | exact True.intro | exact .nil | refine .cons ⟨_, rfl⟩ ?_ | refine ⟨⟨_, _, rfl, rfl⟩, ?_⟩)))
    (case kd4 => first | k_is | exact (by rfl) | exact FR.size_le (by decide) | decide | (repeat (first | exact True.intro | exact .nil | refine .cons ⟨_, rfl⟩ ?_ | refine ⟨⟨_, _, rfl, rfl⟩, ?_⟩)))
    (case kz4 => first | k_is | exact (by rfl) | exact FR.size_le (by decide) | decide | (repeat (first | exact True.intro | exact .nil | refine .cons ⟨_, rfl⟩ ?_ | refine ⟨⟨_, _, rfl, rfl⟩, ?_⟩)))
    (case kv4 => first | k_is | exact (by rfl) | exact FR.size_le (by decide) | decide | (repeat (first | exact True.intro | exact .nil | refine .cons ⟨_, rfl⟩ ?_ | refine ⟨⟨_, _, rfl, rfl⟩, ?_⟩)))
    (case q5 => k_is)
    (case q6 => k_is)
    (case kl6 => k_is)
    (case ky6 => first | k_is | exact (by rfl) | exact FR.size_le (by decide) | decide | (repeat (first | exact True.intro | exact .nil | refine .cons ⟨_, rfl⟩ ?_ | refine ⟨⟨_, _, rfl, rfl⟩, ?_⟩)))
    (case ks6 => first | k_is | exact (by rfl) | exact FR.size_le (by decide) | decide | (repeat (first | exact True.intro | exact .nil | refine .cons ⟨_, rfl⟩ ?_ | refine ⟨⟨_, _, rfl, rfl⟩, ?_⟩)))
    (case kv6_0 => first | k_is | exact (by rfl) | exact FR.size_le (by decide) | decide | (repeat (first | exact True.intro | exact .nil | refine .cons ⟨_, rfl⟩ ?_ | refine ⟨⟨_, _, rfl, rfl⟩, ?_⟩)))
    (case kv6_1 => first | k_is | exact (by rfl) | exact FR.size_le (by decide) | decide | (repeat (first | exact True.intro | exact .nil | refine .cons ⟨_, rfl⟩ ?_ | refine ⟨⟨_, _, rfl, rfl⟩, ?_⟩)))
    (case kv6_2 => first | k_is | exact (by rfl) | exact FR.size_le (by decide) | decide | (repeat (first | exact True.intro | exact .nil | refine .cons ⟨_, rfl⟩ ?_ | refine ⟨⟨_, _, rfl, rfl⟩, ?_⟩)))
    (case kv6_3 => first | k_is | exact (by rfl) | exact FR.size_le (by decide) | decide | (repeat (first | exact True.intro | exact .nil | refine .cons ⟨_, rfl⟩ ?_ | refine ⟨⟨_, _, rfl, rfl⟩, ?_⟩)))
    (case kv6_4 => first | k_is | exact (by rfl) | exact FR.size_le (by decide) | decide | (repeat (first | exact True.intro | exact .nil | refine .cons ⟨_, rfl⟩ ?_ | refine ⟨⟨_, _, rfl, rfl⟩, ?_⟩)))
    (case kv6_5 => first | k_is | exact (by rfl) | exact FR.size_le (by decide) | decide | (repeat (first | exact True.intro | exact .nil | refine .cons ⟨_, rfl⟩ ?_ | refine ⟨⟨_, _, rfl, rfl⟩, ?_⟩)))
    (case q7 => k_is)
    (case q8 => k_is)
    (case z0 => k_is)
    (case z1 => k_is)
    (case z2 => k_is)
    (case z3 => k_is)
    (case z4 => k_is)
    (case z5 => k_is)
    (case z6 => k_is)
    (case z7 => k_is)
    (case z8 => k_is)
    (case z9 => k_is)
    (case z10 => k_is)
    (case z11 => k_is)
    (case z12 => k_is)
    (case z13 => k_is)
    (case z14 => k_is)
    (case z15 => k_is)
