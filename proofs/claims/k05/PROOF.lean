import PyProof.Rows.All
import Wide.All
import OpenK.AllK
import Wide.FinOn
import PyProof.ReprRoads
import PyProof.CallFns
import HandS.ForMost
import HandS.IsInst
import HandS.TupAny
import HandS.TupMul
import HandS.Wide
import HandS.EndBits
import HandS.Defaults
import HandS.Evl
import PyProof.ReprLen
import PyProof.Rows.ReprOcc
import HandS.Set
import HandS.SetFor
import HandS.Strs
import HandS.Style
import HandS.Zip
import HandS.StrMore
import HandS.Flow
import KE.KExcSuper
import KE.KSuper
import HandS.Exc
import HandS.Ends
import HandS.ExcInit
import HandS.ExcCtx
import HandS.TryMany
import HandS.HotCalls
import KE.KExcIs
import HandS.SetBool
import HandS.Star
import HandS.Dict
import HandS.Conv
import HandS.WordsDict
import PyProof.AutoSeq1
import PyProof.Rows.StrDigits
import HandS.DictComp
import HandS.More
import HandS.List
import HandS.ExcSuper
import HandS.CallLocal
import HandS.WrittenGet
import HandS.MakeKwOnly
import HandS.ListItems
import HandS.ForDict
import HandS.ClsMeth
import HandS.TryOnly
import PySem.Challenge.RW_farfiles_k05_whole_may_and_the_tree
namespace FB
/-! A proof given through `also` and `viaW` holds by p alone. What stands beside p is a coercion that Lean finds last, once all else is done: then it keeps no tree of the steps of p, and since p is elaborated as a lemma of simp, nothing else of them; a long text of proofs needs less memory. -/
structure Bx (n : Nat) : Type where
structure Cx0 : Prop where
instance (b : Bx 0) : CoeT (Bx 0) b Cx0 := ⟨⟨⟩⟩
theorem pinF (_ : Cx0) (h : False) : False := h
def Wit (_ : Prop) : Prop := True
def Hold (p : Prop) : Prop := p
theorem viaW {p : Prop} (_ : Wit p) (h : p) : Hold p := h
theorem also {p : Prop} {n : Nat} (h : Wit p → Hold p) (_ : Bx n → ∀ q : Prop, False → q) (_ : n = 0) : p := h trivial
end FB
set_option Elab.async false
set_option linter.all false
set_option maxRecDepth 100000
set_option maxHeartbeats 4000000
namespace FB
open PySem PySem.Spec PyProof.Rows L2
/-- a promise kept wherever no repr is under way -/
structure FnG (P : Program) (w : World) (K : PySem.W.Frag) (mg : Str → Option Value) (base : Heap) (CX : CXT) (k : Nat) (f : Addr) (fd : FuncData) (ps : List Str) (sp : Sp) : Prop where
  n : ∀ vs H Q E, sp vs H Q E → vs.length = ps.length
  go : ∀ (A : Around) (outer : List Env) (s : Shared) (H : Hp) (args : Args) (us : List Value) (vs : List V) (Q : VK) (E : XK), A.guards = some [] → Room k A → Env0 P w K mg base A outer s H →
    BindsTo s fd args (ps.zip us) → Vals vs us → sp vs H Q E → codeAny (model P w) A (.call (.ref f) args) (CR CX outer P w H s Q E) s
section
variable {P : Program} {w : World} {K : PySem.W.Frag} {mg : Str → Option Value} {base : Heap}
theorem FnG.of {CX : CXT} {k : Nat} {f : Addr} {fd : FuncData} {ps : List Str} {sp : Sp} (F : FnOk P w K mg base CX k f fd ps sp) : FnG P w K mg base CX k f fd ps sp :=
  ⟨F.len, fun A outer s H args us vs Q E _ hr => F.run A outer s H args us vs Q E hr⟩
theorem FnG.up {CX : CXT} {j k : Nat} {f : Addr} {fd : FuncData} {ps : List Str} {sp : Sp} (F : FnG P w K mg base CX j f fd ps sp) (h : j ≤ k) : FnG P w K mg base CX k f fd ps sp :=
  ⟨F.n, fun A outer s H args us vs Q E hg hr => F.go A outer s H args us vs Q E hg (hr.mono h)⟩
/-- a def by its body, guards known -/
theorem fng_of {CX : CXT} {k : Nat} {x qual : Str} {st : Stmt} {f : Addr} {fd : FuncData} {N ps : List Str} {sp : Sp} (F : Fun K x qual st f fd) (S : FnScope N ps (defScope st)) (ln : ∀ vs H Q E, sp vs H Q E → vs.length = ps.length)
    (hb : ∀ (cdv : Value) (A : Around) (outer : List Env) (s : Shared) (H : Hp) (vs : List V) (Q : VK) (E : XK), A.guards = some [] → Room k (A.deeper (envOfC qual (defScope st) s.heap.objs.size f cdv)) → sp vs H Q E →
      ∃ t, PSs (cxOf CX P w K mg base N qual (defScope st) f cdv A outer s H E) (defBody st) t ∧ t { nx := fun _ H' => Q .non H', rt := Q } (start N vs) H) : FnG P w K mg base CX (k + 1) f fd ps sp := by
  refine' @FB.also _ _ ?_ ?_ ?_; rotate_left
  · intro wit__; simp only [↓FB.viaW wit__ (by
      clear wit__
      obtain ⟨oc, od, kV, doc, pm, an, cdv, ct, osl, rfl, lk, hcd⟩ := F.ex
      refine ⟨ln, ?_⟩
      intro A outer s H args us vs Q E hg hr e0 hbd r hsp
      have hl : vs.length = ps.length := ln _ _ _ _ hsp
      have KX : K.In s.heap := e0.mod.kin.keeps (fun b o e => (e0.bs b o e).1)
      have lim : s.heap.NoLimit := e0.mod.nolimit.keeps (fun b o e => (e0.bs b o e).1)
      have hkd : ∀ y ∈ ps.zip us, (defScope st).names.lookup y.1 = some .local ∨ ((defScope st).names.lookup y.1 = some .cell ∧ ((cellsFrom (s.heap.objs.size + 1) (defScope st).names []).lookup y.1).isSome = true) := by
        rintro ⟨n, v⟩ hy
        cases S.par n (List.of_mem_zip hy).1 with
        | inl q => exact Or.inl q
        | inr q => exact Or.inr ⟨q, PySem.W.cellsFrom_some _ _ _ (Or.inl q)⟩
      refine codeAny_call_function hr.depth (KX _ _ lk) rfl S.co S.gen rfl (PySem.W.codeRec_of KX hcd) (hbd _ _ _ _ ?_)
      refine wpAny_newFunctionEnv_cells S.kind hkd ?_
      intro env he s1 x1
      subst he
      refine ⟨lim.keeps x1.toInCall.keep, codeAny_func ?_⟩
      obtain ⟨t, ht, hq⟩ := hb cdv A outer s H vs Q E hg (hr.deeper _) hsp
      have I : Inv (cxOf CX P w K mg base N qual (defScope st) f cdv A outer s H E) [] (start N vs) H s1 := inv_start S hr.hd e0 hl r x1
      refine wpAny_mono (ht.run [] s1 (start N vs) H _ I hq) ?_ (fun e s' hs => hs)
      intro fl s' hs
      have fin : ∀ {σ' : L2.St} {H' : Hp} {v : V} {u : Value}, Inv (cxOf CX P w K mg base N qual (defScope st) f cdv A outer s H E) [] σ' H' s' → RelV v u → Q v H' → CE outer P w H s Q u s' := by
        intro σ' H' v u J rv q
        exact ⟨v, H', J.os, J.bare, J.base, J.hok, rv, q⟩
      cases fl with
      | next => exact (let ⟨_, _, J, q⟩ := hs; fin (v := V.non) (u := Value.none) J rfl q)
      | ret u => exact (let ⟨_, _, _, J, rv, q⟩ := hs; fin J rv q)
      | brk => exact (let ⟨_, _, _, q⟩ := hs; False.elim q)
      | cont => exact (let ⟨_, _, _, q⟩ := hs; False.elim q))]
  intro b q h; simpa using FB.pinF b h
  eq_refl
end
section
variable {X : Cx} {CX : CXT} {k : Nat} {f : Addr} {fd : FuncData} {ps : List Str} {sp : Sp} {dvs : List V} {ds : List Value} {E : XK} {x : Str} {p pos : Pos} {e : Expr} {es : List Expr} {t : TA}
theorem run_g {pins : List (Addr × Obj)} {σ : L2.St} {H : Hp} {s : Shared} {Q : VK} {us : List Value} {vs : List V} (F : FnG X.prog X.w X.K X.mg X.base CX k f fd ps sp) (hg : X.A.guards = some []) (hr : Room k X.A) (hb : Binds X.K fd ps ds)
    (hd : Vals dvs ds) (hx : Passes CX X E) (I : Inv X pins σ H s) (r : Vals vs us) (h : sp (vs ++ dvs) H Q E) : wpAny (model X.prog X.w) X.A (call (.ref f) us) (EP X pins σ Q) X.xe s := by
  refine' @FB.also _ _ ?_ ?_ ?_; rotate_left
  · intro wit__; simp only [↓FB.viaW wit__ (by
      clear wit__
      have r2 : Vals (vs ++ dvs) (us ++ ds) := Vals.append r hd
      have hl : (us ++ ds).length = ps.length := (r2.length).symm.trans (F.n _ _ _ _ h)
      have main := F.go X.A X.stack s H ⟨us, []⟩ (us ++ ds) (vs ++ dvs) Q E hg hr I.env0 (hb s us I.kIn hl) r2 h
      refine wpAny_call (codeAny_mono main ?_)
      intro r s' hq
      match r, hq with
      | .error e, hq => exact hx pins σ H s e s' I hq
      | .ok (.ret u), hq => exact I.after hq
      | .ok .next, hq => exact hq.elim
      | .ok .brk, hq => exact hq.elim
      | .ok .cont, hq => exact hq.elim)]
  intro b q h; simpa using FB.pinF b h
  eq_refl
/-- f(..) of such a def -/
theorem pe_g (F : FnG X.prog X.w X.K X.mg X.base CX k f fd ps sp) (hgd : X.A.guards = some []) (hr : Room k X.A) (hg : Gl X x) (hm : X.mg x = some (.ref f)) (hk : PySem.W.keepIn X.K (.ref f) = true) (hb : Binds X.K fd ps ds) (hd : Vals dvs ds)
    (hx : Passes CX X E) (ha : PA X (e :: es) t) (hdb : (x == ("__debug__" : Str)) = false := by decide) (he : starEach (e :: es) X.env = (false, eval e X.env) :: starEach es X.env := by rfl)
    (hpl : (backTo pos (starEach es X.env)).any (·.1) = false := by rfl) : PE X (.Call (.Name x p) (e :: es) [] pos) (tCall sp dvs E t) := by
  refine' @FB.also _ _ ?_ ?_ ?_; rotate_left
  · intro wit__; simp only [↓FB.viaW wit__ (by
      clear wit__
      exact ⟨fun pins s σ H Q I h => wpAny_Call_Name_kw (ld_glob I hg hm (PySem.W.callWith_K (h₀ := X.base) I.ok.mod.kin hk (thn (ha.run pos pins s σ H _ I h) fun us s1 hq => by
          obtain ⟨vs, H1, I1, r, q⟩ := hq
          exact ⟨I1.kIn, run_g F hgd hr hb hd hx I1 r q⟩) he hpl) hdb)⟩)]
  intro b q h; simpa using FB.pinF b h
  eq_refl
end
end FB
set_option Elab.async false
set_option linter.all false
set_option maxRecDepth 100000
set_option maxHeartbeats 4000000
namespace FB
open PySem PySem.Spec PyProof.Rows L2
def kD : Key → PyData
  | .inl i => .int i
  | .inr x => .str x
mutual
inductive DU (U : Addr → Prop) (H : Hp) : V → PyData → Prop where
  | non : DU U H .non .none
  | bl (b : Bool) : DU U H (.bl b) (.bool b)
  | int (i : Int) : DU U H (.int i) (.int i)
  | str (x : Str) : DU U H (.str x) (.str x)
  | lst {a : Addr} {vs : List V} {ds : List PyData} : ¬ U a → H a = some (.lst vs) → DUA U H vs ds → DU U H (.ref a) (.list ds)
  | tup {a : Addr} {vs : List V} {ds : List PyData} : ¬ U a → H a = some (.tup vs) → DUA U H vs ds → DU U H (.ref a) (.tuple ds)
  | dct {a : Addr} {kvs : List (Key × V)} {ds : List PyData} : ¬ U a → H a = some (.dK kvs) → DUA U H (kvs.map (·.2)) ds → DU U H (.ref a) (.dict ((kvs.map fun p => kD p.1).zip ds))
inductive DUA (U : Addr → Prop) (H : Hp) : List V → List PyData → Prop where
  | nil : DUA U H [] []
  | cons {v : V} {d : PyData} {vs : List V} {ds : List PyData} : DU U H v d → DUA U H vs ds → DUA U H (v :: vs) (d :: ds)
end
theorem DUA.len0 {U : Addr → Prop} {H : Hp} : ∀ {vs : List V} {ds : List PyData}, DUA U H vs ds → vs.length = ds.length
  | _, _, .nil => rfl
  | _, _, .cons _ t => congrArg (· + 1) (DUA.len0 t)
mutual
def hasL : PyData → Bool
  | .none => false
  | .bool _ => false
  | .int _ => false
  | .str _ => false
  | .list _ => true
  | .tuple xs => hasLA xs
  | .dict kvs => hasLK kvs
def hasLA : List PyData → Bool
  | [] => false
  | x :: xs => hasL x || hasLA xs
def hasLK : List (PyData × PyData) → Bool
  | [] => false
  | (_, v) :: r => hasL v || hasLK r
end
theorem hasLK_zip : ∀ (ks ds : List PyData), ks.length = ds.length → hasLK (ks.zip ds) = hasLA ds
  | [], [], _ => by simp [hasLK, hasLA]
  | k :: ks, d :: ds, h => by
    have ih := hasLK_zip ks ds (Nat.succ.inj h)
    simp only [List.zip_cons_cons, hasLK, hasLA, ih]
  | [], _ :: _, h => by cases h
  | _ :: _, [], h => by cases h
section
variable {P : Program} {w : World} {U : Addr → Prop} {H : Hp} {h : Heap}
theorem pairs_keys (h : Heap) : ∀ {es : List DictEntry} {vs : List (Key × Value)}, Pairs (mixKind P w) es vs → ReadsAll h (es.map (·.key)) (vs.map fun p => kD p.1) []
  | _, _, .nil => .nil
  | _, _, .cons hk _ t => by
    have ih := pairs_keys h t
    have hk' := hk
    rw [mixKind_is] at hk'
    rcases keyIs_shape hk' with ⟨i, tt, e1, e2⟩ | ⟨x, tt, e1, e2⟩
    · rw [List.map_cons, List.map_cons, e1, e2]
      exact ReadsAll.cons (as := []) (bs := []) (Reads.int i tt) ih
    · rw [List.map_cons, List.map_cons, e1, e2]
      exact ReadsAll.cons (as := []) (bs := []) (Reads.str x tt) ih
theorem kv_keys : ∀ {kvs : List (Key × V)} {vs : List (Key × Value)}, KV kvs vs → (vs.map fun p => kD p.1) = kvs.map fun p => kD p.1
  | _, _, .nil => rfl
  | _, _, .cons r t => by rw [List.map_cons, List.map_cons, kv_keys t, r.1]
theorem kv_vals : ∀ {kvs : List (Key × V)} {vs : List (Key × Value)} {es : List DictEntry}, KV kvs vs → Pairs (mixKind P w) es vs → Vals (kvs.map (·.2)) (es.map (·.val))
  | _, _, _, .nil, .nil => .nil
  | _, _, _, .cons r t, .cons _ e s => by
    rw [List.map_cons, List.map_cons, e]
    exact .cons r.2 (kv_vals t s)
theorem zip_fst : ∀ (ks ds : List PyData), ks.length = ds.length → (ks.zip ds).map (·.1) = ks
  | [], [], _ => rfl
  | k :: ks, d :: ds, e => by rw [List.zip_cons_cons, List.map_cons, zip_fst ks ds (Nat.succ.inj e)]
  | [], _ :: _, e => by cases e
  | _ :: _, [], e => by cases e
theorem zip_snd : ∀ (ks ds : List PyData), ks.length = ds.length → (ks.zip ds).map (·.2) = ds
  | [], [], _ => rfl
  | k :: ks, d :: ds, e => by rw [List.zip_cons_cons, List.map_cons, zip_snd ks ds (Nat.succ.inj e)]
  | [], _ :: _, e => by cases e
  | _ :: _, [], e => by cases e
mutual
theorem DU.rd (ok : HOk P w H h) : ∀ {v : V} {d : PyData}, DU U H v d → ∀ {x : Value}, RelV v x → ∃ as, Reads h x d as ∧ (hasL d = false → sysModules ∉ as)
  | _, _, .non, x, r => by
    cases (show x = Value.none from r)
    exact ⟨_, .none, fun _ z => by cases z⟩
  | _, _, .bl b, x, r => by
    cases (show x = Value.bool b from r)
    exact ⟨_, .bool b, fun _ z => by cases z⟩
  | _, _, .int i, x, r => by
    obtain ⟨t, e⟩ := (show ∃ t, x = Value.int i t from r)
    subst e
    exact ⟨_, .int i t, fun _ z => by cases z⟩
  | _, _, .str y, x, r => by
    obtain ⟨t, e⟩ := (show ∃ t, x = Value.str y t from r)
    subst e
    exact ⟨_, .str y t, fun _ z => by cases z⟩
  | _, _, .lst (a := a) (vs := vs) _ e t, x, r => by
    cases (show x = Value.ref a from r)
    obtain ⟨_, its, n, rv, ho⟩ := (show ObjOk P w H h a (.lst vs) from ok a _ e)
    obtain ⟨as, q, _⟩ := DUA.rd ok t rv
    exact ⟨_, .list ho rfl rfl q, fun z => by simp [hasL] at z⟩
  | _, _, .tup (a := a) (vs := vs) _ e t, x, r => by
    cases (show x = Value.ref a from r)
    obtain ⟨_, its, rv, o, ho, hc, n, hd⟩ := (show ObjOk P w H h a (.tup vs) from ok a _ e)
    obtain ⟨as, q, nl⟩ := DUA.rd ok t rv
    exact ⟨_, .tuple ho hc hd q, fun z => nl (by simpa [hasL] using z)⟩
  | _, _, .dct (a := a) (kvs := kvs) (ds := ds) _ e t, x, r => by
    cases (show x = Value.ref a from r)
    obtain ⟨_, hs, vs, kv, o, es, ep, ho, hx, hd, _, pr, _⟩ := (show ObjOk P w H h a (.dK kvs) from ok a _ e)
    have lk : (kvs.map fun p => kD p.1).length = ds.length := by
      rw [List.length_map, ← DUA.len0 t, List.length_map]
    obtain ⟨bs, q, nl⟩ := DUA.rd ok t (kv_vals kv pr)
    have q1 : ReadsAll h (es.toList.map (·.key)) (((kvs.map fun p => kD p.1).zip ds).map (·.1)) [] := by
      rw [zip_fst _ _ lk, ← kv_keys kv]
      exact pairs_keys h pr
    have q2 : ReadsAll h (es.toList.map (·.val)) (((kvs.map fun p => kD p.1).zip ds).map (·.2)) bs := by
      rw [zip_snd _ _ lk]
      exact q
    refine ⟨_, .dict ho hx.1 hd q1 q2, fun z hm => ?_⟩
    rw [show hasL (.dict ((kvs.map fun p => kD p.1).zip ds)) = hasLA ds by rw [hasL, hasLK_zip _ _ lk]] at z
    rcases List.mem_cons.mp hm with e1 | hm
    · rw [← e1] at hs
      simp at hs
    · rcases List.mem_append.mp hm with z1 | z1
      · cases z1
      · exact nl z z1
theorem DUA.rd (ok : HOk P w H h) : ∀ {vs : List V} {ds : List PyData}, DUA U H vs ds → ∀ {xs : List Value}, Vals vs xs → ∃ as, ReadsAll h xs ds as ∧ (hasLA ds = false → sysModules ∉ as)
  | _, _, .nil, _, .nil => ⟨_, .nil, fun _ z => by cases z⟩
  | _, _, .cons h1 t, _, .cons r rt => by
    obtain ⟨as, q, n1⟩ := DU.rd ok h1 r
    obtain ⟨bs, q2, n2⟩ := DUA.rd ok t rt
    refine ⟨_, .cons q q2, fun z hm => ?_⟩
    simp only [hasLA, Bool.or_eq_false_iff] at z
    rcases List.mem_append.mp hm with z1 | z1
    · exact n1 z.1 z1
    · exact n2 z.2 z1
end
end
end FB
set_option Elab.async false
set_option linter.all false
set_option maxRecDepth 100000
set_option maxHeartbeats 4000000
namespace FB
open PySem PySem.Spec PyProof.Rows L2
structure Zn where
  I : Addr → Option (HO → Prop)
  U : Addr → Prop
  cov : ∀ a, I a ≠ none → U a
/-- what may happen to the heap -/
structure Zn.R (z : Zn) (H H' : Hp) : Prop where
  kp : ∀ a o, z.I a = none → H a = some o → H' a = some o
  i1 : ∀ a φ, z.I a = some φ → ∃ o, H a = some o ∧ φ o
  i2 : ∀ a φ, z.I a = some φ → ∃ o, H' a = some o ∧ φ o
  l1 : ∀ a, z.U a → H a ≠ none
  l2 : ∀ a, z.U a → H' a ≠ none
/-- what told values lean on stays -/
def Zn.W (z : Zn) (H H' : Hp) : Prop := ∀ a o, ¬ z.U a → H a = some o → H' a = some o
section
variable {z : Zn} {H H1 H2 H' : Hp} {p : Addr} {o : HO}
theorem Zn.W.refl : z.W H H := fun _ _ _ h => h
theorem Zn.W.tr (a : z.W H H1) (b : z.W H1 H2) : z.W H H2 := fun x o n h => b x o n (a x o n h)
theorem Zn.R.w (r : z.R H H') : z.W H H' := fun a o n h => r.kp a o (by
  cases e : z.I a with
  | none => rfl
  | some φ => exact absurd (z.cov a (by rw [e]; simp)) n) h
theorem Zn.R.dr (r : z.R H H') : z.R H' H' := ⟨fun _ _ _ h => h, r.i2, r.i2, r.l2, r.l2⟩
theorem Zn.R.tr (a : z.R H H1) (b : z.R H1 H2) : z.R H H2 := ⟨fun x o n h => b.kp x o n (a.kp x o n h), a.i1, b.i2, a.l1, b.l2⟩
theorem Zn.R.mut (r : z.R H H') (h : H p = none) : z.R H (upd H' p o) := by
  refine' @FB.also _ _ ?_ ?_ ?_; rotate_left
  · intro wit__; simp only [↓FB.viaW wit__ (by
      clear wit__
      refine ⟨fun a u n e => ?_, r.i1, fun a φ e => ?_, r.l1, fun a u => ?_⟩
      · rw [upd_ne (ne_of_none e h)]
        exact r.kp a u n e
      · obtain ⟨x, hx, _⟩ := r.i1 a φ e
        rw [upd_ne (ne_of_none hx h)]
        exact r.i2 a φ e
      · by_cases hp : a = p
        · rw [hp, upd_same]
          simp
        · rw [upd_ne hp]
          exact r.l2 a u)]
  intro b q h; simpa using FB.pinF b h
  eq_refl
theorem Zn.R.new (r : z.R H H) (h : H p = none) : z.R H (upd H p o) := r.mut h
theorem Zn.R.back (r : z.R H H') (h : H' p = none) : H p = none := by
  refine' @FB.also _ _ ?_ ?_ ?_; rotate_left
  · intro wit__; simp only [↓FB.viaW wit__ (by
      clear wit__
      cases e : H p with
      | none => rfl
      | some u =>
        cases ei : z.I p with
        | none =>
          rw [r.kp p u ei e] at h
          cases h
        | some φ =>
          obtain ⟨x, hx, _⟩ := r.i2 p φ ei
          rw [hx] at h
          cases h)]
  intro b q h; simpa using FB.pinF b h
  eq_refl
theorem Zn.R.nu (r : z.R H H) (h : H p = none) : ¬ z.U p := fun u => r.l1 p u h
theorem Zn.R.ni (r : z.R H H) (h : H p = none) : z.I p = none := by
  refine' @FB.also _ _ ?_ ?_ ?_; rotate_left
  · intro wit__; simp only [↓FB.viaW wit__ (by
      clear wit__
      cases ei : z.I p with
      | none => rfl
      | some φ =>
        obtain ⟨x, hx, _⟩ := r.i1 p φ ei
        rw [hx] at h
        cases h)]
  intro b q h; simpa using FB.pinF b h
  eq_refl
/-- plain growth is within every zone -/
theorem Zn.R.ex (r : z.R H H) (e : ∀ a o, H a = some o → H' a = some o) : z.R H H' := by
  refine' @FB.also _ _ ?_ ?_ ?_; rotate_left
  · intro wit__; simp only [↓FB.viaW wit__ (by
      clear wit__
      exact ⟨fun a o _ h => e a o h, r.i1, fun a φ h => let ⟨x, hx, q⟩ := r.i1 a φ h; ⟨x, e a x hx, q⟩, r.l1, fun a u q => by
          cases h : H a with
          | none => exact r.l1 a u h
          | some x => rw [e a x h] at q; cases q⟩)]
  intro b q h; simpa using FB.pinF b h
  eq_refl
/-- one more address on which told values may not hang -/
def Zn.add (z : Zn) (D : Addr) : Zn := ⟨z.I, fun a => z.U a ∨ a = D, fun a h => Or.inl (z.cov a h)⟩
theorem Zn.R.up {D : Addr} (r : z.R H H') (h1 : H D ≠ none) (h2 : H' D ≠ none) : (z.add D).R H H' :=
  ⟨r.kp, r.i1, r.i2, fun a u => u.elim (r.l1 a) fun e => e ▸ h1, fun a u => u.elim (r.l2 a) fun e => e ▸ h2⟩
theorem Zn.R.dn {D : Addr} (r : (z.add D).R H H') : z.R H H' := ⟨r.kp, r.i1, r.i2, fun a u => r.l1 a (Or.inl u), fun a u => r.l2 a (Or.inl u)⟩
theorem Zn.W.dn {D : Addr} (w : z.W H H') : (z.add D).W H H' := fun a o n h => w a o (fun u => n (Or.inl u)) h
end
/-- a zone in which nothing that stands changes -/
def Zn.still (U : Addr → Prop) : Zn := ⟨fun _ => none, U, fun _ h => absurd rfl h⟩
theorem still_r {U : Addr → Prop} {H : Hp} (h : ∀ a, U a → H a ≠ none) : (Zn.still U).R H H := ⟨fun _ _ _ h => h, fun _ _ h => (by cases h), fun _ _ h => (by cases h), h, h⟩
section
variable {U U' : Addr → Prop} {H H' : Hp}
mutual
theorem DU.go (k : ∀ a o, ¬ U a → H a = some o → ¬ U' a ∧ H' a = some o) : ∀ {v : V} {d : PyData}, DU U H v d → DU U' H' v d
  | _, _, .non => .non
  | _, _, .bl b => .bl b
  | _, _, .int i => .int i
  | _, _, .str x => .str x
  | _, _, .lst n e t => .lst (k _ _ n e).1 (k _ _ n e).2 (DUA.go k t)
  | _, _, .tup n e t => .tup (k _ _ n e).1 (k _ _ n e).2 (DUA.go k t)
  | _, _, .dct n e t => .dct (k _ _ n e).1 (k _ _ n e).2 (DUA.go k t)
theorem DUA.go (k : ∀ a o, ¬ U a → H a = some o → ¬ U' a ∧ H' a = some o) : ∀ {vs : List V} {ds : List PyData}, DUA U H vs ds → DUA U' H' vs ds
  | _, _, .nil => .nil
  | _, _, .cons h t => .cons (DU.go k h) (DUA.go k t)
end
theorem DU.w {z : Zn} {v : V} {d : PyData} (w : z.W H H') (h : DU z.U H v d) : DU z.U H' v d := h.go fun a o n e => ⟨n, w a o n e⟩
theorem DUA.w {z : Zn} {v : List V} {d : List PyData} (w : z.W H H') (h : DUA z.U H v d) : DUA z.U H' v d := h.go fun a o n e => ⟨n, w a o n e⟩
/-- an address that was free ahead: the value doesn't reach it -/
theorem DU.add {z : Zn} {D : Addr} {v : V} {d : PyData} (hD : H D = none) (w : z.W H H') (h : DU z.U H v d) : DU (z.add D).U H' v d :=
  h.go fun a o n e => ⟨fun u => u.elim n fun q => (by rw [q, hD] at e; cases e), w a o n e⟩
theorem DU.sub {z : Zn} {D : Addr} {v : V} {d : PyData} (h : DU (z.add D).U H v d) : DU z.U H v d := h.go fun a o n e => ⟨fun u => n (Or.inl u), e⟩
/-- other zones -/
theorem DU.to {V' : Addr → Prop} {v : V} {d : PyData} (k : ∀ a, V' a → U a) (h : DU U H v d) : DU V' H v d := h.go fun a o n e => ⟨fun u => n (k a u), e⟩
theorem DUA.len : ∀ {vs : List V} {ds : List PyData}, DUA U H vs ds → vs.length = ds.length
  | _, _, .nil => rfl
  | _, _, .cons _ t => congrArg (· + 1) t.len
theorem DUA.at : ∀ {vs : List V} {ds : List PyData} {i : Nat} {v : V}, DUA U H vs ds → vs[i]? = some v → ∃ d, ds[i]? = some d ∧ DU U H v d
  | _, _, _, _, .nil, e => by simp at e
  | _, _, 0, v, .cons h _, e => by
    have e2 : _ = v := Option.some.inj e
    subst e2
    exact ⟨_, rfl, h⟩
  | _, _, i + 1, v, .cons _ t, e => DUA.at (i := i) t e
theorem DUA.app : ∀ {vs ws : List V} {ds es : List PyData}, DUA U H vs ds → DUA U H ws es → DUA U H (vs ++ ws) (ds ++ es)
  | _, _, _, _, .nil, s => s
  | _, _, _, _, .cons h t, s => .cons h (DUA.app t s)
theorem DUA.take : ∀ {vs : List V} {ds : List PyData} (n : Nat), DUA U H vs ds → DUA U H (vs.take n) (ds.take n)
  | _, _, 0, _ => .nil
  | _, _, _ + 1, .nil => .nil
  | _, _, n + 1, .cons h t => .cons h (DUA.take n t)
theorem DUA.drop : ∀ {vs : List V} {ds : List PyData} (n : Nat), DUA U H vs ds → DUA U H (vs.drop n) (ds.drop n)
  | _, _, 0, h => h
  | _, _, _ + 1, .nil => .nil
  | _, _, n + 1, .cons _ t => DUA.drop n t
theorem DUA.one {v : V} {d : PyData} (h : DU U H v d) : DUA U H [v] [d] := .cons h .nil
theorem DUA.strs : ∀ xs : List Str, DUA U H (xs.map V.str) (xs.map PyData.str)
  | [] => .nil
  | x :: r => .cons (.str x) (DUA.strs r)
end
abbrev VP := V → Hp → Prop
def Is (c : V) : VP := fun v _ => v = c
/-- an int below n -/
def Nn (n : Nat) : VP := fun v _ => ∃ i : Nat, v = .int (i : Int) ∧ i < n
def Dd (z : Zn) (d : PyData) : VP := fun v H => DU z.U H v d
section
variable (z : Zn)
/-- run at H, k ends within the zone with a value of which φ holds as long as the zone is kept -/
def Rn (k : VK → Prop) (H : Hp) (φ : VP) : Prop := ∀ Q : VK, (∀ v H2, z.R H H2 → (∀ H3, z.W H2 H3 → φ v H3) → Q v H2) → k Q
def Ev (te : TE) (σ : L2.St) (H : Hp) (φ : VP) : Prop := ∀ H1, z.R H H1 → Rn z (te σ H1) H1 φ
def EvT (tt : TT) (σ : L2.St) (H : Hp) (ψ : Bool → Prop) : Prop := ∀ H1, z.R H H1 → ∀ Q : Bool → Hp → Prop, (∀ b H2, z.R H1 H2 → ψ b → Q b H2) → tt σ H1 Q
def EvA (ta : TA) (σ : L2.St) (H : Hp) (Φ : List V → Hp → Prop) : Prop := ∀ H1, z.R H H1 → ∀ Q : List V → Hp → Prop, (∀ vs H2, z.R H1 H2 → (∀ H3, z.W H2 H3 → Φ vs H3) → Q vs H2) → ta σ H1 Q
def EvO (to : TO) (σ : L2.St) (H : Hp) (ψ : Option Int → Prop) : Prop := ∀ H1, z.R H H1 → ∀ Q : Option Int → Hp → Prop, (∀ o H2, z.R H1 H2 → ψ o → Q o H2) → to σ H1 Q
end
section
variable {z : Zn} {σ : L2.St} {H : Hp} {ta tb tc te : TE} {φ ψ χ : VP}
theorem Rn.imp {k : VK → Prop} (h : Rn z k H φ) (i : ∀ v H', z.R H H' → φ v H' → ψ v H') (st : ∀ H' H'', z.R H H' → z.W H' H'' → z.W H H'' → True := by intros; trivial) (iw : ∀ v H', z.W H H' → φ v H' → ψ v H') : Rn z k H ψ :=
  fun Q q => h Q fun v H2 r f => q v H2 r fun H3 w => iw v H3 (r.w.tr w) (f H3 w)
theorem Ev.imp (h : Ev z te σ H φ) (i : ∀ v H', z.W H H' → φ v H' → ψ v H') : Ev z te σ H ψ := fun H1 r Q q => h H1 r Q fun v H2 r2 f => q v H2 r2 fun H3 w => i v H3 ((r.tr r2).w.tr w) (f H3 w)
theorem Ev.up {H' : Hp} (r : z.R H H') (h : Ev z te σ H φ) : Ev z te σ H' φ := fun H1 r1 => h H1 (r.tr r1)
theorem ev_var {i : Nat} {v : V} (e : σ[i]? = some (some v)) (h : ∀ H', z.W H H' → φ v H') : Ev z (tVar i) σ H φ := fun H1 r Q q => ⟨v, e, q v H1 r.dr fun H3 w => h H3 (r.w.tr w)⟩
theorem ev_is {i : Nat} {v : V} (e : σ[i]? = some (some v)) : Ev z (tVar i) σ H (Is v) := ev_var e fun _ _ => rfl
theorem ev_c {v : V} (h : ∀ H', z.W H H' → φ v H') : Ev z (tC v) σ H φ := fun H1 r Q q => q v H1 r.dr fun H3 w => h H3 (r.w.tr w)
theorem ev_k {v : V} : Ev z (tC v) σ H (Is v) := ev_c fun _ _ => rfl
/-- an operator: its two parts, then itself -/
theorem ev_op {r : R2} (ha : Ev z ta σ H φ) (hb : ∀ x H1, z.R H H1 → φ x H1 → Ev z tb σ H1 ψ) (hr : ∀ x y H1, z.R H H1 → φ x H1 → ψ y H1 → Rn z (r x y H1) H1 χ) : Ev z (tOp r ta tb) σ H χ := by
  refine' @FB.also _ _ ?_ ?_ ?_; rotate_left
  · intro wit__; simp only [↓FB.viaW wit__ (by
      clear wit__
      exact fun H1 e Q q =>
        ha H1 e _ fun x H2 e2 fx => hb x H2 (e.tr e2) (fx H2 .refl) H2 e2.dr _ fun y H3 e3 fy => hr x y H3 ((e.tr e2).tr e3) (fx H3 e3.w) (fy H3 .refl) Q fun v H4 e4 fv => q v H4 ((e2.tr e3).tr e4) fv)]
  intro b q h; simpa using FB.pinF b h
  eq_refl
/-- .. of two known values -/
theorem ev_op2 {r : R2} {x y : V} (ha : Ev z ta σ H (Is x)) (hb : Ev z tb σ H (Is y)) (hr : ∀ H1, z.R H H1 → Rn z (r x y H1) H1 χ) : Ev z (tOp r ta tb) σ H χ :=
  ev_op ha (fun _ H1 r _ => hb.up r) fun x' y' H1 r e1 e2 => by
    cases e1
    cases e2
    exact hr H1 r
theorem rn_val {k : VK → Prop} {v : V} (hR : z.R H H) (h : ∀ Q : VK, Q v H → k Q) (hφ : ∀ H', z.W H H' → φ v H') : Rn z k H φ := fun Q q => h Q (q v H hR hφ)
theorem ev_un {r : V → Hp → VK → Prop} (ha : Ev z ta σ H φ) (hr : ∀ x H1, z.R H H1 → φ x H1 → Rn z (r x H1) H1 χ) : Ev z (tUn r ta) σ H χ := fun H1 e Q q =>
  ha H1 e _ fun x H2 e2 fx => hr x H2 (e.tr e2) (fx H2 .refl) Q fun v H3 e3 fv => q v H3 (e2.tr e3) fv
theorem ev_i0 {g : Int → Int → V} {i j : Int} (ha : Ev z ta σ H (Is (.int i))) (hb : Ev z tb σ H (Is (.int j))) : Ev z (tOp (rI0 g) ta tb) σ H (Is (g i j)) :=
  ev_op2 ha hb fun H1 r => rn_val r.dr (fun Q q => ⟨i, j, rfl, rfl, q⟩) fun _ _ => rfl
theorem ev_i {C : Int → Int → Prop} {g : Int → Int → V} {i j : Int} (ha : Ev z ta σ H (Is (.int i))) (hb : Ev z tb σ H (Is (.int j))) (hc : C i j) : Ev z (tOp (rI C g) ta tb) σ H (Is (g i j)) :=
  ev_op2 ha hb fun H1 r => rn_val r.dr (fun Q q => ⟨i, j, rfl, rfl, hc, q⟩) fun _ _ => rfl
theorem ev_eq {x y : V} (ha : Ev z ta σ H (Is x)) (hb : Ev z tb σ H (Is y)) (hc : scal x y = true) : Ev z (tOp rEq ta tb) σ H (Is (.bl (decide (x = y)))) :=
  ev_op2 ha hb fun H1 r => rn_val r.dr (fun Q q => ⟨hc, q⟩) fun _ _ => rfl
theorem ev_ne {x y : V} (ha : Ev z ta σ H (Is x)) (hb : Ev z tb σ H (Is y)) (hc : scal x y = true) : Ev z (tOp rNe ta tb) σ H (Is (.bl (!decide (x = y)))) :=
  ev_op2 ha hb fun H1 r => rn_val r.dr (fun Q q => ⟨hc, q⟩) fun _ _ => rfl
theorem ev_to {x y : V} (h : Ev z te σ H (Is x)) (e : x = y) : Ev z te σ H (Is y) := e ▸ h
variable {t u : TT} {P1 P2 P3 : Bool → Prop}
theorem EvT.imp (h : EvT z t σ H P1) (i : ∀ b, P1 b → P2 b) : EvT z t σ H P2 := fun H1 e Q q => h H1 e Q fun b H2 e2 p => q b H2 e2 (i b p)
theorem EvT.up {H' : Hp} (r : z.R H H') (h : EvT z t σ H P1) : EvT z t σ H' P1 := fun H1 r1 => h H1 (r.tr r1)
theorem et_test {b : Bool} (h : Ev z te σ H (Is (.bl b))) : EvT z (tTest te) σ H (· = b) := fun H1 e Q q => h H1 e _ fun v H2 e2 f => ⟨b, f H2 .refl, q b H2 e2 rfl⟩
theorem et_B {b : Bool} (h : Ev z te σ H (Is (.bl b))) : EvT z (tB te) σ H (· = b) := fun H1 e Q q => h H1 e _ fun v H2 e2 f => ⟨b, f H2 .refl, q b H2 e2 rfl⟩
theorem et_not {b : Bool} (h : EvT z t σ H (· = b)) : EvT z (tNot t) σ H (· = !b) := fun H1 e Q q => h H1 e _ fun c H2 e2 p => q _ H2 e2 (by rw [p])
theorem et_and {a b : Bool} (h1 : EvT z t σ H (· = a)) (h2 : a = true → EvT z u σ H (· = b)) : EvT z (tAnd t u) σ H (· = (a && b)) := by
  refine' @FB.also _ _ ?_ ?_ ?_; rotate_left
  · intro wit__; simp only [↓FB.viaW wit__ (by
      clear wit__
      exact fun H1 e Q q => h1 H1 e _ fun c H2 e2 p => by
        subst p
        cases c with
        | true => exact h2 rfl H2 (e.tr e2) Q fun d H3 e3 p => q d H3 (e2.tr e3) p
        | false => exact q false H2 e2 rfl)]
  intro b q h; simpa using FB.pinF b h
  eq_refl
theorem et_or {a b : Bool} (h1 : EvT z t σ H (· = a)) (h2 : a = false → EvT z u σ H (· = b)) : EvT z (tOr t u) σ H (· = (a || b)) := by
  refine' @FB.also _ _ ?_ ?_ ?_; rotate_left
  · intro wit__; simp only [↓FB.viaW wit__ (by
      clear wit__
      exact fun H1 e Q q => h1 H1 e _ fun c H2 e2 p => by
        subst p
        cases c with
        | false => exact h2 rfl H2 (e.tr e2) Q fun d H3 e3 p => q d H3 (e2.tr e3) p
        | true => exact q true H2 e2 rfl)]
  intro b q h; simpa using FB.pinF b h
  eq_refl
theorem et_to {a b : Bool} (h : EvT z t σ H (· = a)) (e : a = b) : EvT z t σ H (· = b) := e ▸ h
theorem ev_and {a b : Bool} (h1 : Ev z ta σ H (Is (.bl a))) (h2 : a = true → Ev z tb σ H (Is (.bl b))) : Ev z (tAndV ta tb) σ H (Is (.bl (a && b))) := by
  refine' @FB.also _ _ ?_ ?_ ?_; rotate_left
  · intro wit__; simp only [↓FB.viaW wit__ (by
      clear wit__
      exact fun H1 e Q q => h1 H1 e _ fun c H2 e2 p => ⟨a, p H2 .refl, by
        cases a with
        | true => exact h2 rfl H2 (e.tr e2) Q fun d H3 e3 p => q d H3 (e2.tr e3) p
        | false => exact q _ H2 e2 fun _ _ => rfl⟩)]
  intro b q h; simpa using FB.pinF b h
  eq_refl
theorem ev_or {a b : Bool} (h1 : Ev z ta σ H (Is (.bl a))) (h2 : a = false → Ev z tb σ H (Is (.bl b))) : Ev z (tOrV ta tb) σ H (Is (.bl (a || b))) := by
  refine' @FB.also _ _ ?_ ?_ ?_; rotate_left
  · intro wit__; simp only [↓FB.viaW wit__ (by
      clear wit__
      exact fun H1 e Q q => h1 H1 e _ fun c H2 e2 p => ⟨a, p H2 .refl, by
        cases a with
        | false => exact h2 rfl H2 (e.tr e2) Q fun d H3 e3 p => q d H3 (e2.tr e3) p
        | true => exact q _ H2 e2 fun _ _ => rfl⟩)]
  intro b q h; simpa using FB.pinF b h
  eq_refl
theorem ev_not {a : Bool} (h1 : Ev z ta σ H (Is (.bl a))) : Ev z (tNotV ta) σ H (Is (.bl (!a))) := fun H1 e Q q => h1 H1 e _ fun c H2 e2 p => ⟨a, p H2 .refl, q _ H2 e2 fun _ _ => rfl⟩
theorem ev_if {b : Bool} (h : EvT z t σ H (· = b)) (h1 : b = true → Ev z ta σ H φ) (h2 : b = false → Ev z tb σ H φ) : Ev z (tIf t ta tb) σ H φ := by
  refine' @FB.also _ _ ?_ ?_ ?_; rotate_left
  · intro wit__; simp only [↓FB.viaW wit__ (by
      clear wit__
      exact fun H1 e Q q => h H1 e _ fun c H2 e2 p => by
        subst p
        cases c with
        | true => exact h1 rfl H2 (e.tr e2) Q fun d H3 e3 p => q d H3 (e2.tr e3) p
        | false => exact h2 rfl H2 (e.tr e2) Q fun d H3 e3 p => q d H3 (e2.tr e3) p)]
  intro b q h; simpa using FB.pinF b h
  eq_refl
/-- a chain of two comparisons of known values, each a truth -/
theorem ev_chain {r r' : R2} {x y w : V} {a b : Bool} (ha : Ev z ta σ H (Is x)) (hb : Ev z tb σ H (Is y)) (hc : a = true → Ev z tc σ H (Is w)) (hr : ∀ H1, z.R H H1 → Rn z (r x y H1) H1 (Is (.bl a))) (hr' : ∀ H1, z.R H H1 → Rn z (r' y w H1) H1 (Is (.bl b))) :
    Ev z (tChain r r' ta tb tc) σ H (Is (.bl (a && b))) := by
  refine' @FB.also _ _ ?_ ?_ ?_; rotate_left
  · intro wit__; simp only [↓FB.viaW wit__ (by
      clear wit__
      exact fun H1 e Q q => ha H1 e _ fun x1 H2 e2 fx => hb H2 (e.tr e2) _ fun y1 H3 e3 fy => by
        have ex : x1 = x := fx H2 .refl
        have ey : y1 = y := fy H3 .refl
        subst ex
        subst ey
        refine hr H3 ((e.tr e2).tr e3) _ fun v H4 e4 fv => ⟨a, fv H4 .refl, ?_⟩
        cases a with
        | false => exact q _ H4 ((e2.tr e3).tr e4) fun _ _ => rfl
        | true =>
          refine hc rfl H4 (((e.tr e2).tr e3).tr e4) _ fun w1 H5 e5 fw => ?_
          have ew : w1 = w := fw H5 .refl
          subst ew
          exact hr' H5 ((((e.tr e2).tr e3).tr e4).tr e5) Q fun v H6 e6 f6 => q v H6 ((((e2.tr e3).tr e4).tr e5).tr e6) f6)]
  intro b q h; simpa using FB.pinF b h
  eq_refl
theorem ea_nil : EvA z tNil σ H (fun vs _ => vs = []) := fun H1 _ Q q => q [] H1 (Zn.R.dr ‹_›) fun _ _ => rfl
theorem ea_cons {tr : TA} {Φ : List V → Hp → Prop} (h : Ev z te σ H φ) (hr : ∀ v H1, z.R H H1 → φ v H1 → EvA z tr σ H1 Φ) : EvA z (tCons te tr) σ H (fun vs H' => ∃ v r, vs = v :: r ∧ φ v H' ∧ Φ r H') := by
  refine' @FB.also _ _ ?_ ?_ ?_; rotate_left
  · intro wit__; simp only [↓FB.viaW wit__ (by
      clear wit__
      exact fun H1 e Q q =>
        h H1 e _ fun v H2 e2 fv => hr v H2 (e.tr e2) (fv H2 .refl) H2 e2.dr _ fun vs H3 e3 fr => q _ H3 (e2.tr e3) fun H4 w => ⟨v, vs, rfl, fv H4 (e3.w.tr w), fr H4 w⟩)]
  intro b q h; simpa using FB.pinF b h
  eq_refl
theorem EvA.imp {ta : TA} {Φ Ψ : List V → Hp → Prop} (h : EvA z ta σ H Φ) (i : ∀ vs H', z.W H H' → Φ vs H' → Ψ vs H') : EvA z ta σ H Ψ := fun H1 r Q q => h H1 r Q fun v H2 r2 f => q v H2 r2 fun H3 w => i v H3 ((r.tr r2).w.tr w) (f H3 w)
theorem EvA.up {H' : Hp} {ta : TA} {Φ : List V → Hp → Prop} (r : z.R H H') (h : EvA z ta σ H Φ) : EvA z ta σ H' Φ := fun H1 r1 => h H1 (r.tr r1)
/-- known arguments -/
theorem ea_is {v : V} {vs : List V} {tr : TA} (h : Ev z te σ H (Is v)) (hr : EvA z tr σ H (fun ws _ => ws = vs)) : EvA z (tCons te tr) σ H (fun ws _ => ws = v :: vs) :=
  (ea_cons h fun _ H1 r _ => hr.up r).imp fun ws H' _ ⟨a, b, e, e1, e2⟩ => by rw [e, show a = v from e1, e2]
/-- a new list, a new tuple at p -/
def Lst (z : Zn) (Φ : List V → Hp → Prop) : VP := fun v H => ∃ p ws, v = .ref p ∧ ¬ z.U p ∧ H p = some (.lst ws) ∧ Φ ws H
def Tup (z : Zn) (Φ : List V → Hp → Prop) : VP := fun v H => ∃ p ws, v = .ref p ∧ ¬ z.U p ∧ H p = some (.tup ws) ∧ Φ ws H
theorem ev_lst {ta : TA} {Φ : List V → Hp → Prop} (h : EvA z ta σ H Φ) (hl : ∀ vs H', Φ vs H' → vs.length ≤ 100000) : Ev z (tLst ta) σ H (Lst z Φ) := by
  refine' @FB.also _ _ ?_ ?_ ?_; rotate_left
  · intro wit__; simp only [↓FB.viaW wit__ (by
      clear wit__
      exact fun H1 e Q q =>
        h H1 e _ fun vs H2 e2 f => ⟨Nat.le_trans (hl _ _ (f H2 .refl)) (by decide), fun p hp => q _ _ (e2.tr (e2.dr.new hp)) fun H3 w =>
          ⟨p, vs, rfl, e2.dr.nu hp, w p _ (e2.dr.nu hp) upd_same, f H3 ((e2.dr.new hp).w.tr w)⟩⟩)]
  intro b q h; simpa using FB.pinF b h
  eq_refl
theorem ev_tup {ta : TA} {Φ : List V → Hp → Prop} (h : EvA z ta σ H Φ) (hl : ∀ vs H', Φ vs H' → vs.length ≤ 100000) : Ev z (tTup ta) σ H (Tup z Φ) := by
  refine' @FB.also _ _ ?_ ?_ ?_; rotate_left
  · intro wit__; simp only [↓FB.viaW wit__ (by
      clear wit__
      exact fun H1 e Q q =>
        h H1 e _ fun vs H2 e2 f => ⟨Nat.le_trans (hl _ _ (f H2 .refl)) (by decide), fun p hp => q _ _ (e2.tr (e2.dr.new hp)) fun H3 w =>
          ⟨p, vs, rfl, e2.dr.nu hp, w p _ (e2.dr.nu hp) upd_same, f H3 ((e2.dr.new hp).w.tr w)⟩⟩)]
  intro b q h; simpa using FB.pinF b h
  eq_refl
/-- xs[i], the list just made, i known to be somehow -/
theorem ev_ixl {K : PySem.W.Frag} {Φ : List V → Hp → Prop} (ha : Ev z ta σ H (Lst z Φ)) (hb : ∀ (x : V) H1, z.R H H1 → Ev z tb σ H1 ψ) (hr : ∀ ws y H1, z.R H H1 → Φ ws H1 → ψ y H1 → ∃ (i : Nat) (v : V), y = .int (i : Int) ∧ ws[i]? = some v ∧ ∀ H2, z.W H1 H2 → χ v H2) :
    Ev z (tOp (rIxL K) ta tb) σ H χ := by
  refine' @FB.also _ _ ?_ ?_ ?_; rotate_left
  · intro wit__; simp only [↓FB.viaW wit__ (by
      clear wit__
      exact ev_op ha (fun x H1 r _ => hb x H1 r) fun x y H1 r ⟨p, ws, ex, nu, hp, fw⟩ fy => by
        obtain ⟨i, v, ey, ew, fv⟩ := hr ws y H1 r fw fy
        exact rn_val r.dr (fun Q q => ⟨p, ws, i, v, ex, ey, .inl (.inl hp), atI_nat ew, q⟩) fv)]
  intro b q h; simpa using FB.pinF b h
  eq_refl
theorem ev_call {sp : Sp} {dvs : List V} {E : XK} {t : TA} {Φ : List V → Hp → Prop} (h : EvA z t σ H Φ) (hs : ∀ vs H1, z.R H H1 → Φ vs H1 → Rn z (fun Q => sp (vs ++ dvs) H1 Q E) H1 χ) : Ev z (tCall sp dvs E t) σ H χ := fun H1 e Q q =>
  h H1 e _ fun vs H2 e2 f => hs vs H2 (e.tr e2) (f H2 .refl) Q fun v H3 e3 fv => q v H3 (e2.tr e3) fv
theorem ev_cb {r : List V → Hp → VK → Prop} {t : TA} {Φ : List V → Hp → Prop} (h : EvA z t σ H Φ) (hs : ∀ vs H1, z.R H H1 → Φ vs H1 → Rn z (r vs H1) H1 χ) : Ev z (tCB r t) σ H χ := fun H1 e Q q =>
  h H1 e _ fun vs H2 e2 f => hs vs H2 (e.tr e2) (f H2 .refl) Q fun v H3 e3 fv => q v H3 (e2.tr e3) fv
theorem ev_callN {n m : Nat} {sp : Sp} {gV : List V → List V → List V} {E : XK} {t tk : TA} {Φ Ψ : List V → Hp → Prop} (h : EvA z t σ H Φ) (hk : ∀ vs H1, z.R H H1 → Φ vs H1 → EvA z tk σ H1 Ψ)
    (hs : ∀ vs zs H1, z.R H H1 → Φ vs H1 → Ψ zs H1 → vs.length = n ∧ zs.length = m ∧ Rn z (fun Q => sp (gV vs zs) H1 Q E) H1 χ) : Ev z (tCallN n m sp gV E t tk) σ H χ := by
  refine' @FB.also _ _ ?_ ?_ ?_; rotate_left
  · intro wit__; simp only [↓FB.viaW wit__ (by
      clear wit__
      exact fun H1 e Q q =>
        h H1 e _ fun vs H2 e2 f => hk vs H2 (e.tr e2) (f H2 .refl) H2 e2.dr _ fun zs H3 e3 g => by
          obtain ⟨l1, l2, l3⟩ := hs vs zs H3 ((e.tr e2).tr e3) (f H3 e3.w) (g H3 .refl)
          exact ⟨l1, l2, l3 Q fun v H4 e4 fv => q v H4 ((e2.tr e3).tr e4) fv⟩)]
  intro b q h; simpa using FB.pinF b h
  eq_refl
theorem eo_none : EvO z tNoPart σ H (· = none) := fun H1 e Q q => q none H1 e.dr rfl
theorem eo_some {i : Int} (h : Ev z te σ H (Is (.int i))) : EvO z (tPart te) σ H (· = some i) := fun H1 e Q q => h H1 e _ fun v H2 e2 f => ⟨i, f H2 .refl, q _ H2 e2 rfl⟩
theorem ev_sl {r : V → Option Int → Option Int → Hp → VK → Prop} {tl th : TO} {lo hi : Option Int} (h : Ev z te σ H φ) (h1 : EvO z tl σ H (· = lo)) (h2 : EvO z th σ H (· = hi)) (hr : ∀ x H1, z.R H H1 → φ x H1 → Rn z (r x lo hi H1) H1 χ) :
    Ev z (L2.tSl r te tl th) σ H χ := by
  refine' @FB.also _ _ ?_ ?_ ?_; rotate_left
  · intro wit__; simp only [↓FB.viaW wit__ (by
      clear wit__
      exact fun H1 e Q q => h H1 e _ fun v H2 e2 f => h1 H2 (e.tr e2) _ fun o1 H3 e3 p1 => h2 H3 ((e.tr e2).tr e3) _ fun o2 H4 e4 p2 => by
        subst p1
        subst p2
        exact hr v H4 (((e.tr e2).tr e3).tr e4) (f H4 (e3.tr e4).w) Q fun v H5 e5 fv => q v H5 (((e2.tr e3).tr e4).tr e5) fv)]
  intro b q h; simpa using FB.pinF b h
  eq_refl
variable {D : Ends} {ts tw : TS} {g : TG}
theorem s_set {i : Nat} (hR : z.R H H) (h : Ev z te σ H φ) (k : ∀ v H1, z.R H H1 → (∀ H2, z.W H1 H2 → φ v H2) → D.nx (σ.set i (some v)) H1) : tAsg te (gName i) D σ H := h H hR _ fun v H1 e f => k v H1 e f
theorem s_ret (hR : z.R H H) (h : Ev z te σ H φ) (k : ∀ v H1, z.R H H1 → (∀ H2, z.W H1 H2 → φ v H2) → D.rt v H1) : tRet te D σ H := h H hR _ fun v H1 e f => k v H1 e f
theorem s_if {b : Bool} (hR : z.R H H) (h : EvT z t σ H (· = b)) (h1 : b = true → ∀ H1, z.R H H1 → ts D σ H1) (h2 : b = false → ∀ H1, z.R H H1 → tw D σ H1) : tIfS t ts tw D σ H := h H hR _ fun c H1 e p => by
  subst p
  cases c with
  | true => exact h1 rfl H1 e
  | false => exact h2 rfl H1 e
/-- if without else -/
theorem s_if0 {b : Bool} (hR : z.R H H) (h : EvT z t σ H (· = b)) (h1 : b = true → ∀ H1, z.R H H1 → ts D σ H1) (h2 : b = false → ∀ H1, z.R H H1 → D.nx σ H1) : tIfS t ts tNext D σ H := s_if hR h h1 h2
variable {tu : TS}
theorem q_set {i : Nat} (hR : z.R H H) (h : Ev z te σ H φ) (k : ∀ v H1, z.R H H1 → (∀ H2, z.W H1 H2 → φ v H2) → tu D (σ.set i (some v)) H1) : tSeq (tAsg te (gName i)) tu D σ H := h H hR _ fun v H1 e f => k v H1 e f
theorem q_if {b : Bool} (hR : z.R H H) (h : EvT z t σ H (· = b)) (h1 : b = true → ∀ H1, z.R H H1 → ts { D with nx := tu D } σ H1) (h2 : b = false → ∀ H1, z.R H H1 → tu D σ H1) : tSeq (tIfS t ts tNext) tu D σ H := s_if (D := { D with nx := tu D }) hR h h1 h2
end
end FB
set_option Elab.async false
set_option linter.all false
set_option maxRecDepth 100000
set_option maxHeartbeats 4000000
namespace FB
open PySem PySem.Spec PyProof.Rows L2
/-- J walks n turns over things that stand still in the zone -/
structure Srcs (z : Zn) (J : It) (H : Hp) (n : Nat) (it : Nat → V → Prop) : Prop where
  go : ∀ i H', z.W H H' → i < n → J.go i H'
  stop : ∀ H', z.W H H' → J.stop n H'
  yld : ∀ i H' x H'', z.W H H' → i < n → J.yld i H' x H'' → H'' = H' ∧ it i x
def EvI (z : Zn) (wi : TI) (σ : L2.St) (H : Hp) (P : Nat → Prop) (it : Nat → V → Prop) : Prop :=
  ∀ H1, z.R H H1 → ∀ R' : It → Hp → Prop, (∀ J H2 n, P n → z.R H1 H2 → Srcs z J H2 n it → R' J H2) → wi σ H1 R'
section
variable {z : Zn} {K : PySem.W.Frag} {σ : L2.St} {H : Hp} {te : TE} {ta : TA}
theorem ei_rangeP {P : Nat → Prop} (h : EvA z ta σ H (fun vs _ => ∃ n : Nat, vs = [.int (n : Int)] ∧ n ≤ 1000000 ∧ P n)) : EvI z (iRng1 ta) σ H P (fun i v => v = .int (i : Int)) := by
  refine' @FB.also _ _ ?_ ?_ ?_; rotate_left
  · intro wit__; simp only [↓FB.viaW wit__ (by
      clear wit__
      exact fun H1 e R' k =>
        h H1 e _ fun vs H2 e2 f => by
          obtain ⟨n, e3, hn, hP⟩ := f H2 .refl
          exact ⟨n, e3, by omega, by omega, k _ H2 _ hP e2 ⟨fun i _ _ hi => hi, fun _ _ => Nat.le_refl _, fun i H' x H'' _ _ y => ⟨y.1, by rw [y.2, Int.zero_add]⟩⟩⟩)]
  intro b q h; simpa using FB.pinF b h
  eq_refl
theorem ei_range {n : Nat} (h : EvA z ta σ H (fun vs _ => vs = [.int (n : Int)])) (h0 : n ≤ 1000000) : EvI z (iRng1 ta) σ H (· = n) (fun i v => v = .int (i : Int)) := ei_rangeP (h.imp fun vs H' _ e => ⟨n, e, h0, rfl⟩)
theorem srcs_lst {H : Hp} {a : Addr} {xs : List V} (nu : ¬ z.U a) (h : SqL K H a xs) : Srcs z (Itl K a) H xs.length (fun i v => xs[i]? = some v) := by
  refine' @FB.also _ _ ?_ ?_ ?_; rotate_left
  · intro wit__; simp only [↓FB.viaW wit__ (by
      clear wit__
      have k : ∀ H', z.W H H' → SqL K H' a xs := fun H' w => by
        rcases h with (h | ⟨o, h⟩) | h
        · exact .inl (.inl (w a _ nu h))
        · exact .inl (.inr ⟨o, w a _ nu h⟩)
        · exact .inr h
      exact ⟨fun i H' w hi => ⟨xs, xs[i], k H' w, List.getElem?_eq_getElem hi⟩, fun H' w => ⟨xs, k H' w, Nat.le_refl _⟩, fun i H' x H'' w _ y => ⟨y.1, y.2 xs (k H' w)⟩⟩)]
  intro b q h; simpa using FB.pinF b h
  eq_refl
theorem srcs_tup {H : Hp} {a : Addr} {xs : List V} (nu : ¬ z.U a) (h : H a = some (.tup xs)) : Srcs z (Itt K a) H xs.length (fun i v => xs[i]? = some v) := by
  refine' @FB.also _ _ ?_ ?_ ?_; rotate_left
  · intro wit__; simp only [↓FB.viaW wit__ (by
      clear wit__
      have k : ∀ H', z.W H H' → SqT K H' a xs := fun H' w => .inl (.inl (w a _ nu h))
      exact ⟨fun i H' w hi => ⟨xs, xs[i], k H' w, List.getElem?_eq_getElem hi⟩, fun H' w => ⟨xs, k H' w, Nat.le_refl _⟩, fun i H' x H'' w _ y => ⟨y.1, y.2 xs (k H' w)⟩⟩)]
  intro b q h; simpa using FB.pinF b h
  eq_refl
theorem ei_lst {xs : List V} (h : Ev z te σ H (Lst z fun ws _ => ws = xs)) : EvI z (iList K te) σ H (· = xs.length) (fun i v => xs[i]? = some v) := by
  refine' @FB.also _ _ ?_ ?_ ?_; rotate_left
  · intro wit__; simp only [↓FB.viaW wit__ (by
      clear wit__
      exact fun H1 e R' k =>
        h H1 e _ fun v H2 e2 f => by
          obtain ⟨p, ws, ev, nu, hp, ew⟩ := f H2 .refl
          subst ew
          exact ⟨p, ev, ⟨ws, .inl (.inl hp)⟩, k _ H2 _ rfl e2 (srcs_lst nu (.inl (.inl hp)))⟩)]
  intro b q h; simpa using FB.pinF b h
  eq_refl
theorem ei_tup {xs : List V} (h : Ev z te σ H (Tup z fun ws _ => ws = xs)) : EvI z (iTup K te) σ H (· = xs.length) (fun i v => xs[i]? = some v) := by
  refine' @FB.also _ _ ?_ ?_ ?_; rotate_left
  · intro wit__; simp only [↓FB.viaW wit__ (by
      clear wit__
      exact fun H1 e R' k =>
        h H1 e _ fun v H2 e2 f => by
          obtain ⟨p, ws, ev, nu, hp, ew⟩ := f H2 .refl
          subst ew
          exact ⟨p, ev, ⟨ws, .inl (.inl hp)⟩, k _ H2 _ rfl e2 (srcs_tup nu hp)⟩)]
  intro b q h; simpa using FB.pinF b h
  eq_refl
/-- [elt for x in source], each item's φ -/
theorem ev_lc {wi : TI} {j : Nat} {P : Nat → Prop} {vs : List Nat} {it : Nat → V → Prop} {φ : Nat → VP} (hs : EvI z wi σ H P it) (hn : ∀ n, P n → n ≤ 100000) (hv : ∀ x, wipe ((wipe σ vs).set j (some x)) vs = wipe σ vs)
    (hb : ∀ n i x D H1, P n → i < n → it i x → H D = none → z.R H H1 → (z.add D).R H1 H1 → Ev (z.add D) te ((wipe σ vs).set j (some x)) H1 (φ i)) :
    Ev z (tLc wi (gName j) tYes te vs) σ H (Lst z fun ws H' => P ws.length ∧ ∀ i w, ws[i]? = some w → φ i w H') := by
  refine' @FB.also _ _ ?_ ?_ ?_; rotate_left
  · intro wit__; simp only [↓FB.viaW wit__ (by
      clear wit__
      exact fun H1 e Q q => by
        refine hs H1 e _ fun J H2 n hP e2 S D hD => ?_
        have hn2 := hn n hP
        have hD0 : H D = none := (e.tr e2).back hD
        have nU : ¬ z.U D := e2.dr.nu hD
        have nI : z.I D = none := e2.dr.ni hD
        refine ⟨fun i m H' => i + m = n ∧ z.R H2 H' ∧ ∃ acc : List V, H' D = some (.lst acc) ∧ acc.length = i ∧ ∀ k w, acc[k]? = some w → ∀ H3, (z.add D).W H' H3 → φ k w H3,
          ⟨n, by omega, e2.dr.new hD, [], upd_same, rfl, fun k w h => by simp at h⟩, fun i m H' hW => ?_⟩
        obtain ⟨em, r, acc, hacc, hl, hφ⟩ := hW
        have w2 : z.W H2 H' := r.w
        by_cases hi : i < n
        · right
          refine ⟨S.go i H' w2 hi, fun H'' => z.R H2 H'' ∧ ∃ acc : List V, H'' D = some (.lst acc) ∧ acc.length = i + 1 ∧ ∀ k w, acc[k]? = some w → ∀ H3, (z.add D).W H'' H3 → φ k w H3,
            fun H'' h => ⟨m - 1, by omega, by omega, h⟩, fun x H'' hy => ?_⟩
          obtain ⟨rfl, hx⟩ := S.yld i H' x H'' w2 hi hy
          have rD : (z.add D).R H'' H'' := r.dr.up (by rw [hacc]; simp) (by rw [hacc]; simp)
          refine ⟨hv x, ?_⟩
          refine hb n i x D H'' hP hi hx hD0 ((e.tr e2).tr r) rD H'' rD _ fun y H4 e4 fy => ?_
          have h4D : H4 D = some (.lst acc) := e4.kp D _ nI hacc
          refine ⟨acc, h4D, Nat.lt_of_le_of_lt (show acc.length ≤ 100000 by omega) (by decide), (r.tr e4.dn).mut hD, acc ++ [y], upd_same, by rw [List.length_append, hl]; rfl, fun k w hk H3 w3 => ?_⟩
          have w45 : (z.add D).W H4 (upd H4 D (.lst (acc ++ [y]))) := fun a o na ha => by
            rw [upd_ne fun ea => na (Or.inr ea)]
            exact ha
          by_cases hk2 : k < acc.length
          · rw [List.getElem?_append_left hk2] at hk
            exact hφ k w hk H3 ((e4.w.tr w45).tr w3)
          · have ek : k = acc.length := by
              have h5 := (List.getElem?_eq_some_iff.mp hk).1
              rw [List.length_append, List.length_cons, List.length_nil] at h5
              omega
            subst ek
            rw [List.getElem?_append_right (Nat.le_refl _), Nat.sub_self] at hk
            have ey : y = w := Option.some.inj hk
            subst ey
            rw [hl]
            exact fy H3 (w45.tr w3)
        · left
          have ei : i = n := by omega
          subst ei
          exact ⟨S.stop H' w2, q _ H' (e2.tr r) fun H3 w3 => ⟨D, acc, rfl, nU, w3 D _ nU hacc, hl ▸ hP, fun k w hk => hφ k w hk H3 w3.dn⟩⟩)]
  intro b q h; simpa using FB.pinF b h
  eq_refl
theorem bl_of {α : Type} {xs : List α} {g : α → Bool} {ws : List V} (hl : ws.length = xs.length) (h : ∀ (i : Nat) w, ws[i]? = some w → ∃ x, xs[i]? = some x ∧ w = .bl (g x)) : ws = (xs.map g).map V.bl := by
  refine' @FB.also _ _ ?_ ?_ ?_; rotate_left
  · intro wit__; simp only [↓FB.viaW wit__ (by
      clear wit__
      apply List.ext_getElem?
      intro i
      rw [List.getElem?_map, List.getElem?_map]
      cases e : ws[i]? with
      | none =>
        have := List.getElem?_eq_none_iff.mp e
        rw [List.getElem?_eq_none (by omega)]
        rfl
      | some w =>
        obtain ⟨x, hx, ew⟩ := h i w e
        rw [hx, ew]
        rfl)]
  intro b q h; simpa using FB.pinF b h
  eq_refl
theorem ev_addS {ta tb : TE} {x y : Str} (ha : Ev z ta σ H (Is (.str x))) (hb : Ev z tb σ H (Is (.str y))) (hl : x.length + y.length ≤ 100000) :
    Ev z (tOp (fun x y H Q => ∃ i j, x = .str i ∧ y = .str j ∧ i.length + j.length ≤ sizeLine ∧ Q (.str (i ++ j)) H) ta tb) σ H (Is (.str (x ++ y))) :=
  ev_op2 ha hb fun H1 r => rn_val r.dr (fun Q q => ⟨x, y, rfl, rfl, Nat.le_trans hl (by decide), q⟩) fun _ _ => rfl
theorem ev_inC {ta tb : TE} {c : Nat} {y : Str} (ha : Ev z ta σ H (Is (.str ⟨#[c]⟩))) (hb : Ev z tb σ H (Is (.str y))) :
    Ev z (tOp (fun x y H Q => ∃ (c : Nat) (z : Str), x = .str ⟨#[c]⟩ ∧ y = .str z ∧ Q (.bl (decide (c ∈ z.cps.toList))) H) ta tb) σ H (Is (.bl (decide (c ∈ y.cps.toList)))) :=
  ev_op2 ha hb fun H1 r => rn_val r.dr (fun Q q => ⟨c, y, rfl, rfl, q⟩) fun _ _ => rfl
theorem ev_ixS {ta tb : TE} {x : Str} {i : Nat} {c : Nat} (ha : Ev z ta σ H (Is (.str x))) (hb : Ev z tb σ H (Is (.int (i : Int)))) (hl : x.length ≤ 100000) (hc : x.cps.toList[i]? = some c) : Ev z (tOp rIxS ta tb) σ H (Is (.str ⟨#[c]⟩)) := by
  refine' @FB.also _ _ ?_ ?_ ?_; rotate_left
  · intro wit__; simp only [↓FB.viaW wit__ (by
      clear wit__
      exact ev_op2 ha hb fun H1 r => rn_val r.dr (fun Q q => ⟨x, i, c, rfl, rfl, Nat.le_trans hl (by decide), atI_nat hc, q⟩) fun _ _ => rfl)]
  intro b q h; simpa using FB.pinF b h
  eq_refl
theorem ev_lenS {te : TE} {x : Str} (h : Ev z te σ H (Is (.str x))) (hl : x.length ≤ 100000) : Ev z (tCB (fun xs H Q => ∃ y n, xs = [y] ∧ LenV K y H n ∧ Q (.int n) H) (tCons te tNil)) σ H (Is (.int (x.length : Int))) := by
  refine' @FB.also _ _ ?_ ?_ ?_; rotate_left
  · intro wit__; simp only [↓FB.viaW wit__ (by
      clear wit__
      exact fun H1 e Q q =>
        h H1 e _ fun v H2 e2 f => ⟨.str x, x.length, by rw [show v = .str x from f H2 .refl], ⟨Nat.le_trans hl (by decide), rfl⟩, q _ H2 e2 fun _ _ => rfl⟩)]
  intro b q h; simpa using FB.pinF b h
  eq_refl
theorem ev_lenT {te : TE} {xs : List V} (h : Ev z te σ H (Tup z fun ws _ => ws = xs)) : Ev z (tCB (fun xs H Q => ∃ y n, xs = [y] ∧ LenV K y H n ∧ Q (.int n) H) (tCons te tNil)) σ H (Is (.int (xs.length : Int))) := by
  refine' @FB.also _ _ ?_ ?_ ?_; rotate_left
  · intro wit__; simp only [↓FB.viaW wit__ (by
      clear wit__
      exact fun H1 e Q q =>
        h H1 e _ fun v H2 e2 f => by
          obtain ⟨p, ws, ev, nu, hp, ew⟩ := f H2 .refl
          subst ew
          exact ⟨v, ws.length, rfl, by rw [ev]; exact Or.inr ⟨ws, .inl (.inl hp), rfl⟩, q _ H2 e2 fun _ _ => rfl⟩)]
  intro b q h; simpa using FB.pinF b h
  eq_refl
/-- the built-in type of data -/
def tyD : PyData → String
  | .none => "NoneType"
  | .bool _ => "bool"
  | .int _ => "int"
  | .str _ => "str"
  | .list _ => "list"
  | .tuple _ => "tuple"
  | .dict _ => "dict"
theorem DU.ty {U : Addr → Prop} {v : V} {d : PyData} (h : DU U H v d) : TyX K H v (.type (tyD d)) := by
  refine' @FB.also _ _ ?_ ?_ ?_; rotate_left
  · intro wit__; simp only [↓FB.viaW wit__ (by
      clear wit__
      cases h with
      | non => exact .base .non
      | bl b => exact .base (.bl b)
      | int i => exact .base (.int i)
      | str x => exact .base (.str x)
      | lst n e t => exact .base (.lst e)
      | tup n e t => exact .base (.tup e)
      | dct n e t => exact .base (.dK e))]
  intro b q h; simpa using FB.pinF b h
  eq_refl
theorem ev_isi {te : TE} {d : PyData} {T : String} {b : Bool} (h : Ev z te σ H (Dd z d)) (hk : kitB (tyD d) T = some b) : Ev z (tCB (rIsi K) (tCons te (tCons (tC (.ty T)) tNil))) σ H (Is (.bl b)) := by
  refine' @FB.also _ _ ?_ ?_ ?_; rotate_left
  · intro wit__; simp only [↓FB.viaW wit__ (by
      clear wit__
      exact fun H1 e Q q =>
        h H1 e _ fun v H2 e2 f => ⟨v, .ty T, _, _, b, rfl, .ty T, (f H2 .refl).ty, kit_ty hk, q _ H2 e2 fun _ _ => rfl⟩)]
  intro b q h; simpa using FB.pinF b h
  eq_refl
end
section
variable {z : Zn} {K : PySem.W.Frag} {σ : L2.St} {H : Hp} {te : TE} {ta tb : TE} {D : Ends} {ts : TS} {j : Nat}
/-- for x in a list just made, or in one that a name holds -/
theorem s_forL {Φ : List V → Hp → Prop} (hR : z.R H H) (h : Ev z te σ H (Lst z Φ)) (main : ∀ ws H1, z.R H H1 → (∀ H2, z.W H1 H2 → Φ ws H2) → ∃ Pv : Nat → L2.St → Hp → Prop, Pv 0 σ H1 ∧ (∀ i σ' H', Pv i σ' H' → z.W H1 H') ∧
      (∀ i x σ' H', ws[i]? = some x → Pv i σ' H' → ts { D with nx := Pv (i + 1), ct := Pv (i + 1), bk := D.nx } (σ'.set j (some x)) H') ∧ ∀ σ' H', Pv ws.length σ' H' → D.nx σ' H') : tFor (iList K te) (gName j) ts D σ H := by
  refine' @FB.also _ _ ?_ ?_ ?_; rotate_left
  · intro wit__; simp only [↓FB.viaW wit__ (by
      clear wit__
      exact h H hR _ fun v H1 e f => by
          obtain ⟨p, ws, ev, nu, hp, fw⟩ := f H1 .refl
          have hΦ : ∀ H2, z.W H1 H2 → Φ ws H2 := fun H2 w => by
            obtain ⟨p', ws', ev', _, hp', fw'⟩ := f H2 w
            rw [ev] at ev'
            cases ev'
            rw [w p _ nu hp] at hp'
            cases hp'
            exact fw'
          obtain ⟨Pv, p0, pw, ps, pd⟩ := main ws H1 e hΦ
          refine ⟨p, ev, ⟨ws, .inl (.inl hp)⟩, for_list (K := K) (a := p) (xs := ws) Pv p0 (fun i σ' H' _ q => .inl (.inl (pw i σ' H' q p _ nu hp))) (fun i x σ' H' hx q => ps i x σ' H' hx q) pd⟩)]
  intro b q h; simpa using FB.pinF b h
  eq_refl
theorem q_forL {tu : TS} {Φ : List V → Hp → Prop} (hR : z.R H H) (h : Ev z te σ H (Lst z Φ)) (main : ∀ ws H1, z.R H H1 → (∀ H2, z.W H1 H2 → Φ ws H2) → ∃ Pv : Nat → L2.St → Hp → Prop, Pv 0 σ H1 ∧ (∀ i σ' H', Pv i σ' H' → z.W H1 H') ∧
      (∀ i x σ' H', ws[i]? = some x → Pv i σ' H' → ts { D with nx := Pv (i + 1), ct := Pv (i + 1), bk := tu D } (σ'.set j (some x)) H') ∧ ∀ σ' H', Pv ws.length σ' H' → tu D σ' H') : tSeq (tFor (iList K te) (gName j) ts) tu D σ H := s_forL (D := { D with nx := tu D }) hR h main
/-- for i in range(n) -/
theorem s_forR {tn : TA} {n : Int} (hR : z.R H H) (h : EvA z tn σ H (fun vs _ => vs = [.int n])) (hn : -1000000 ≤ n ∧ n ≤ 1000000) (Pv : Nat → L2.St → Hp → Prop) (h0 : ∀ H1, z.R H H1 → Pv 0 σ H1)
    (hs : ∀ (i : Nat) σ' H', (i : Int) < n → Pv i σ' H' → ts { D with nx := Pv (i + 1), ct := Pv (i + 1), bk := D.nx } (σ'.set j (some (.int (i : Int)))) H') (hd : ∀ σ' H', Pv n.toNat σ' H' → D.nx σ' H') : tFor (iRng1 tn) (gName j) ts D σ H := by
  refine' @FB.also _ _ ?_ ?_ ?_; rotate_left
  · intro wit__; simp only [↓FB.viaW wit__ (by
      clear wit__
      exact h H hR _ fun vs H1 e f => ⟨n, f H1 .refl, by omega, by omega, for_range (lo := 0) (n := n.toNat) Pv (h0 H1 e) (fun i σ' H' hi q => by
          show ts _ (σ'.set j (some (.int (0 + (i : Int))))) H'
          rw [Int.zero_add]
          exact hs i σ' H' (by omega) q) hd⟩)]
  intro b q h; simpa using FB.pinF b h
  eq_refl
theorem q_forR {tu : TS} {tn : TA} {n : Int} (hR : z.R H H) (h : EvA z tn σ H (fun vs _ => vs = [.int n])) (hn : -1000000 ≤ n ∧ n ≤ 1000000) (Pv : Nat → L2.St → Hp → Prop) (h0 : ∀ H1, z.R H H1 → Pv 0 σ H1)
    (hs : ∀ (i : Nat) σ' H', (i : Int) < n → Pv i σ' H' → ts { D with nx := Pv (i + 1), ct := Pv (i + 1), bk := tu D } (σ'.set j (some (.int (i : Int)))) H') (hd : ∀ σ' H', Pv n.toNat σ' H' → tu D σ' H') : tSeq (tFor (iRng1 tn) (gName j) ts) tu D σ H := s_forR (D := { D with nx := tu D }) hR h hn Pv h0 hs hd
end
end FB
set_option Elab.async false
set_option linter.all false
set_option maxRecDepth 100000
set_option maxHeartbeats 4000000
namespace FB
open PySem PySem.Spec PyProof.Rows L2
/-- a def of the top, where it stands -/
structure Df (K : PySem.W.Frag) (mg : Str → Option Value) (x : Str) (st : Stmt) (ps : List Str) where
  f : Addr
  fd : FuncData
  F : Fun K x x st f fd
  g : mg x = some (.ref f)
  b : Binds K fd ps []
/-- no exception leaves such a def -/
theorem fng_ok {P : Program} {w : World} {K : PySem.W.Frag} {mg : Str → Option Value} {base : Heap} {k : Nat} {x qual : Str} {st : Stmt} {f : Addr} {fd : FuncData} {N ps : List Str} {sp : Sp} (F : Fun K x qual st f fd) (S : FnScope N ps (defScope st))
    (ln : ∀ vs H Q E, sp vs H Q E → vs.length = ps.length)
    (hb : ∀ (cdv : Value) (A : Around) (outer : List Env) (s : Shared) (H : Hp) (vs : List V) (Q : VK) (E : XK), A.guards = some [] → Room k (A.deeper (envOfC qual (defScope st) s.heap.objs.size f cdv)) → sp vs H Q E →
      ∃ t, PSs (cxOf CX0 P w K mg base N qual (defScope st) f cdv A outer s H E).nox (defBody st) t ∧ t { nx := fun _ H' => Q .non H', rt := Q } (start N vs) H) : FnG P w K mg base CX0 (k + 1) f fd ps sp :=
  fng_of F S ln fun cdv A outer s H vs Q E hg hr h => let ⟨t, a, b⟩ := hb cdv A outer s H vs Q E hg hr h; ⟨t, a.nox, b⟩
def isStrD : PyData → Bool
  | .str _ => true
  | _ => false
def isTupD : PyData → Bool
  | .tuple _ => true
  | _ => false
def isBlD : PyData → Bool
  | .bool _ => true
  | _ => false
theorem kit_str (d : PyData) : kitB (tyD d) "str" = some (isStrD d) := by
  refine' @FB.also _ _ ?_ ?_ ?_; rotate_left
  · intro wit__; simp only [↓FB.viaW wit__ (by
      clear wit__
      cases d <;> (simp only [tyD, isStrD]; decide +kernel))]
  intro b q h; simpa using FB.pinF b h
  eq_refl
theorem kit_tup (d : PyData) : kitB (tyD d) "tuple" = some (isTupD d) := by
  refine' @FB.also _ _ ?_ ?_ ?_; rotate_left
  · intro wit__; simp only [↓FB.viaW wit__ (by
      clear wit__
      cases d <;> (simp only [tyD, isTupD]; decide +kernel))]
  intro b q h; simpa using FB.pinF b h
  eq_refl
theorem kit_bool (d : PyData) : kitB (tyD d) "bool" = some (isBlD d) := by
  refine' @FB.also _ _ ?_ ?_ ?_; rotate_left
  · intro wit__; simp only [↓FB.viaW wit__ (by
      clear wit__
      cases d <;> (simp only [tyD, isBlD]; decide +kernel))]
  intro b q h; simpa using FB.pinF b h
  eq_refl
def low (c : Nat) : Bool := decide (97 ≤ c) && decide (c ≤ 122)
def isW (x : Str) : Bool := decide (1 ≤ x.length) && decide (x.length ≤ 8) && x.cps.toList.all low
def isWordD : PyData → Bool
  | .str x => isW x
  | _ => false
def isPathD : PyData → Bool
  | .tuple ds => decide (ds.length ≤ 6) && ds.all isWordD
  | _ => false
/-- texts not too long -/
def Sl (d : PyData) : Prop := ∀ x, d = .str x → x.length ≤ 1000
def Tl (d : PyData) : Prop := ∀ ds, d = .tuple ds → ds.length ≤ 1000 ∧ ∀ e ∈ ds, Sl e
section
variable {z : Zn} {K : PySem.W.Frag} {σ : L2.St} {H : Hp} {ta tb : TE}
theorem ev_leS {x y : Str} (ha : Ev z ta σ H (Is (.str x))) (hb : Ev z tb σ H (Is (.str y))) :
    Ev z (tOp (fun x y H Q => ∃ i j, x = .str i ∧ y = .str j ∧ Q (.bl (!decide (j.cps.toList < i.cps.toList))) H) ta tb) σ H (Is (.bl (!decide (y.cps.toList < x.cps.toList)))) :=
  ev_op2 ha hb fun H1 r => rn_val r.dr (fun Q q => ⟨x, y, rfl, rfl, q⟩) fun _ _ => rfl
theorem rn_i0 {g : Int → Int → V} {i j : Int} (hR : z.R H H) : Rn z (rI0 g (.int i) (.int j) H) H (Is (g i j)) := rn_val hR (fun Q q => ⟨i, j, rfl, rfl, q⟩) fun _ _ => rfl
end
/-- the promise of a look at a thing: f tells it -/
def spLook (ok : PyData → Prop) (f : PyData → Bool) : Sp := fun vs H Q _ => ∃ (z : Zn) (v : V) (d : PyData), vs = [v] ∧ z.R H H ∧ DU z.U H v d ∧ ok d ∧ ∀ H', z.R H H' → Q (.bl (f d)) H'
theorem spLook_len {ok : PyData → Prop} {f : PyData → Bool} : ∀ vs H Q E, spLook ok f vs H Q E → vs.length = 1 := fun vs H Q E ⟨_, _, _, e, _⟩ => by rw [e]; rfl
theorem DU.tupAt {U : Addr → Prop} {H : Hp} {v : V} {ds : List PyData} (h : DU U H v (.tuple ds)) : ∃ a vs, v = .ref a ∧ ¬ U a ∧ H a = some (.tup vs) ∧ DUA U H vs ds := by
  refine' @FB.also _ _ ?_ ?_ ?_; rotate_left
  · intro wit__; simp only [↓FB.viaW wit__ (by
      clear wit__
      cases h with
      | tup n e t => exact ⟨_, _, rfl, n, e, t⟩)]
  intro b q h; simpa using FB.pinF b h
  eq_refl
theorem DUA.mem {U : Addr → Prop} {H : Hp} : ∀ {vs : List V} {ds : List PyData} {v : V}, DUA U H vs ds → v ∈ vs → ∃ d, d ∈ ds ∧ DU U H v d
  | _, _, _, .nil, h => by cases h
  | _, _, v, .cons h t, m => by
    rcases List.mem_cons.mp m with e | m
    · exact ⟨_, List.mem_cons_self, e ▸ h⟩
    · obtain ⟨d, hd, q⟩ := t.mem m
      exact ⟨d, List.mem_cons_of_mem _ hd, q⟩
section
variable {z : Zn} {K : PySem.W.Frag} {σ : L2.St} {H : Hp} {te : TE}
theorem ev_tupv {a : Addr} {vs : List V} {i : Nat} (e : σ[i]? = some (some (.ref a))) (n : ¬ z.U a) (h : H a = some (.tup vs)) : Ev z (tVar i) σ H (Tup z fun ws _ => ws = vs) :=
  ev_var e fun H' w => ⟨a, vs, rfl, n, w a _ n h, rfl⟩
theorem ev_look {ok : PyData → Prop} {f : PyData → Bool} {d : PyData} {E : XK} (h : Ev z te σ H (Dd z d)) (hok : ok d) : Ev z (tCall (spLook ok f) [] E (tCons te tNil)) σ H (Is (.bl (f d))) := by
  refine' @FB.also _ _ ?_ ?_ ?_; rotate_left
  · intro wit__; simp only [↓FB.viaW wit__ (by
      clear wit__
      exact ev_call (ea_cons h fun v H1 r _ => ea_nil) fun vs H1 r ⟨v, rr, e, hv, er⟩ Q q => ⟨z, v, d, by rw [e, er]; rfl, r.dr, hv, hok, fun H' r' => q _ H' r' fun _ _ => rfl⟩)]
  intro b q h; simpa using FB.pinF b h
  eq_refl
end
theorem az_list : ("abcdefghijklmnopqrstuvwxyz" : Str).cps.toList = (List.range 26).map (97 + ·) := by decide +kernel
theorem low_in (c : Nat) : low c = decide (c ∈ ("abcdefghijklmnopqrstuvwxyz" : Str).cps.toList) := by
  refine' @FB.also _ _ ?_ ?_ ?_; rotate_left
  · intro wit__; simp only [↓FB.viaW wit__ (by
      clear wit__
      rw [az_list]
      unfold low
      by_cases h : 97 ≤ c ∧ c ≤ 122
      · rw [decide_eq_true h.1, decide_eq_true h.2, decide_eq_true (List.mem_map.mpr ⟨c - 97, List.mem_range.mpr (by omega), by omega⟩)]
        rfl
      · rw [decide_eq_false (p := c ∈ _) fun q => h (by
          obtain ⟨i, hi, e⟩ := List.mem_map.mp q
          have := List.mem_range.mp hi
          omega)]
        by_cases h1 : 97 ≤ c
        · rw [decide_eq_true h1, decide_eq_false fun h2 => h ⟨h1, h2⟩]
          rfl
        · rw [decide_eq_false h1]
          rfl)]
  intro b q h; simpa using FB.pinF b h
  eq_refl
end FB
set_option Elab.async false
set_option linter.all false
set_option maxRecDepth 100000
set_option maxHeartbeats 4000000
namespace FB
open PySem PySem.Spec PyProof.Rows L2
section
variable {X : Cx} {K : PySem.W.Frag}
theorem k_isi (h : X.K = K := by rfl) : CallR X (.builtin "isinstance") (rIsi K) := h ▸ call_isi
theorem k_len (h : X.K = K := by rfl) : CallR X (.builtin "len") (fun xs H Q => ∃ y n, xs = [y] ∧ LenV K y H n ∧ Q (.int n) H) := h ▸ call_len
theorem k_any (hc : X.calm = true := by rfl) (h : X.K = K := by rfl) : CallR X (.builtin "any") (rAny K) := h ▸ cr_any hc
theorem k_sortedS (h : X.K = K := by rfl) : CallR X (.builtin "sorted") (rSortedS K) := h ▸ cr_sortedS
theorem k_tuple (h : X.K = K := by rfl) : CallR X (.type "tuple") (fun xs H Q => ∃ p ys, xs = [.ref p] ∧ ((SqL K H p ys ∧ ∀ l, H l = none → Q (.ref l) (upd H l (.tup ys))) ∨ (SqT K H p ys ∧ Q (.ref p) H))) := h ▸ call_tuple_of
theorem k_ixl (h : X.K = K := by rfl) : IxR X (rIxL K) := h ▸ ix_list
theorem k_ixt (h : X.K = K := by rfl) : IxR X (rIxT K) := h ▸ ix_tup
theorem k_sll (h : X.K = K := by rfl) : SlR X (rSlL K) := h ▸ sl_list
theorem k_slt (h : X.K = K := by rfl) : SlR X (rSlA K) := h ▸ sl_tupA
theorem k_catA (h : X.K = K := by rfl) : OpR X (binaryOp .Add) (rCatA K) := h ▸ op_catA
theorem k_in (h : X.K = K := by rfl) : OpR X (compareOp .In) (rIn K false) := h ▸ op_in_seq
theorem k_notIn (h : X.K = K := by rfl) : OpR X (compareOp .NotIn) (rIn K true) := h ▸ op_notIn_seq
theorem k_eqD (hu : X.A.units + 64 < cLine) (h : X.K = K := by rfl) : OpR X (compareOp .Eq) (rEqD K) := h ▸ op_eqD hu
theorem k_neD (hu : X.A.units + 64 < cLine) (h : X.K = K := by rfl) : OpR X (compareOp .NotEq) (rNeD K) := h ▸ op_neD hu
variable {tg l : Expr} {tl : TE}
theorem k_pil (hl : PI X tg l (iList X.K tl)) (h : X.K = K := by rfl) : PI X tg l (iList K tl) := h ▸ hl
theorem k_pit (hl : PI X tg l (iTup X.K tl)) (h : X.K = K := by rfl) : PI X tg l (iTup K tl) := h ▸ hl
end
def rNotB2 : R2 := fun x y H Q => ∃ b : Bool, y = .bl b ∧ Q (.bl (!decide (x = .bl b))) H
theorem plain_bl {x : V} {v : Value} (b : Bool) (r : RelV x v) : plainIs v (.bool b) = true := by
  refine' @FB.also _ _ ?_ ?_ ?_; rotate_left
  · intro wit__; simp only [↓FB.viaW wit__ (by
      clear wit__
      cases x <;> first
        | (cases r; rfl)
        | (obtain ⟨t, rfl⟩ := r; rfl))]
  intro b q h; simpa using FB.pinF b h
  eq_refl
theorem not_bl {x : V} {v : Value} {b : Bool} (r : RelV x v) (h : x ≠ .bl b) : v ≠ .bool b := fun e => by
  subst e
  cases x <;> first
    | (cases r; exact h rfl)
    | (obtain ⟨t, h⟩ := r; cases h)
    | (cases r)
theorem op_notB2 {X : Cx} : OpR X (compareOp .IsNot) rNotB2 := by
  refine' @FB.also _ _ ?_ ?_ ?_; rotate_left
  · intro wit__; simp only [↓FB.viaW wit__ (by
      clear wit__
      intro pins s σ H x y v u Q I rx ry h
      obtain ⟨b, rfl, q⟩ := h
      cases (show u = Value.bool b from ry)
      by_cases e : x = .bl b
      · subst e
        cases (show v = Value.bool b from rx)
        exact wpAny_isNot_self rfl ⟨.bl false, H, I, rfl, by simpa using q⟩
      · exact wpAny_isNot_other (plain_bl b rx) (not_bl rx e) ⟨.bl true, H, I, rfl, by simpa [e] using q⟩)]
  intro b q h; simpa using FB.pinF b h
  eq_refl
section
variable {z : Zn} {σ : L2.St} {H : Hp} {ta : TE}
theorem ev_notB2 {x : V} {b : Bool} (h : Ev z ta σ H (Is x)) : Ev z (tOp rNotB2 ta (tC (.bl b))) σ H (Is (.bl (!decide (x = .bl b)))) :=
  ev_op2 h ev_k fun H1 r => rn_val r.dr (fun Q q => ⟨b, rfl, q⟩) fun _ _ => rfl
end
end FB
set_option Elab.async false
set_option linter.all false
set_option maxRecDepth 100000
set_option maxHeartbeats 4000000
namespace FB
open PySem PySem.Spec PyProof.Rows L2
/-- two numbers, the second one small -/
def IsPur : HO → Prop := fun o => ∃ a b : Int, o = .lst [.int a, .int b] ∧ 0 ≤ a ∧ 0 ≤ b ∧ b < 2147483648
section
variable {z : Zn} {K : PySem.W.Frag} {σ : L2.St} {H H' : Hp} {te to ti ta tb : TE} {D : Ends} {tu : TS}
/-- a thing that may change is changed -/
theorem Zn.R.wr {u : Addr} {o : HO} {φ : HO → Prop} (r : z.R H H') (hu : z.I u = some φ) (ho : φ o) : z.R H (upd H' u o) := by
  refine' @FB.also _ _ ?_ ?_ ?_; rotate_left
  · intro wit__; simp only [↓FB.viaW wit__ (by
      clear wit__
      refine ⟨fun a x n e => ?_, r.i1, fun a ψ e => ?_, r.l1, fun a ua => ?_⟩
      · rw [upd_ne (by intro q; rw [q, hu] at n; cases n)]
        exact r.kp a x n e
      · by_cases q : a = u
        · subst q
          rw [hu] at e
          cases e
          exact ⟨o, upd_same, ho⟩
        · rw [upd_ne q]
          exact r.i2 a ψ e
      · by_cases q : a = u
        · rw [q, upd_same]; simp
        · rw [upd_ne q]; exact r.l2 a ua)]
  intro b q h; simpa using FB.pinF b h
  eq_refl
/-- the zone in which all that stands stays -/
abbrev z0 : Zn := Zn.still fun _ => False
theorem z0r : z0.R H H := still_r fun _ h => h.elim
theorem z0g (r : z0.R H H') : ∀ a o, H a = some o → H' a = some o := fun a o h => r.kp a o rfl h
theorem z0w (w : z0.W H H') : ∀ a o, H a = some o → H' a = some o := fun a o h => w a o (fun f => f) h
theorem Zn.R.z0 (r : FB.z0.R H H') (h : z.R H H) : z.R H H' := h.ex (z0g r)
/-- the zone in which told values may lean on new things alone -/
abbrev zf (H : Hp) : Zn := Zn.still fun a => H a ≠ none
theorem zfr {H H' : Hp} (r : z0.R H H') : (zf H).R H' H' := still_r fun a h q => by
  cases e : H a with
  | none => exact h e
  | some o => rw [z0g r a o e] at q; cases q
theorem zf0 {H H1 H2 : Hp} (r : (zf H).R H1 H2) : z0.R H1 H2 := by
  refine' @FB.also _ _ ?_ ?_ ?_; rotate_left
  · intro wit__; simp only [↓FB.viaW wit__ (by
      clear wit__
      exact ⟨fun a o h e => r.kp a o h e, fun _ _ h => (by cases h), fun _ _ h => (by cases h), fun _ h => False.elim h, fun _ h => False.elim h⟩)]
  intro b q h; simpa using FB.pinF b h
  eq_refl
/-- xs[i] = e -/
theorem q_sub {p : Addr} {xs : List V} {j : Nat} {v : V} (hR : z.R H H) (h : Ev z te σ H (Is v)) (ho : Ev z to σ H (Is (.ref p))) (hi : Ev z ti σ H (Is (.int (j : Int)))) (nu : ¬ z.U p) (hp : H p = some (.lst xs)) (hj : j < xs.length)
    (k : ∀ H1, z.R H H1 → tu D σ (upd H1 p (.lst (xs.set j v)))) : tSeq (tAsg te (gSub to ti rSetL)) tu D σ H := by
  refine' @FB.also _ _ ?_ ?_ ?_; rotate_left
  · intro wit__; simp only [↓FB.viaW wit__ (by
      clear wit__
      exact h H hR _ fun v1 H1 e1 f1 => ho H1 e1 _ fun v2 H2 e2 f2 => hi H2 (e1.tr e2) _ fun v3 H3 e3 f3 => by
        have q1 : v1 = v := f1 H1 .refl
        have q2 : v2 = .ref p := f2 H2 .refl
        have q3 : v3 = .int (j : Int) := f3 H3 .refl
        subst q1
        subst q2
        subst q3
        have r := (e1.tr e2).tr e3
        exact ⟨p, xs, (j : Int), j, rfl, rfl, r.w p _ nu hp, Evl.ixN_nat hj, k H3 r⟩)]
  intro b q h; simpa using FB.pinF b h
  eq_refl
/-- xs[i] of a list that stands -/
theorem ev_ixL {p : Addr} {xs : List V} {i : Nat} {v : V} (ha : Ev z ta σ H (Is (.ref p))) (hb : Ev z tb σ H (Is (.int (i : Int)))) (nu : ¬ z.U p) (hp : H p = some (.lst xs)) (hv : xs[i]? = some v) : Ev z (tOp (rIxL K) ta tb) σ H (Is v) := by
  refine' @FB.also _ _ ?_ ?_ ?_; rotate_left
  · intro wit__; simp only [↓FB.viaW wit__ (by
      clear wit__
      exact ev_op2 ha hb fun H1 r => rn_val r.dr (fun Q q => ⟨p, xs, i, v, rfl, rfl, .inl (.inl (r.w p _ nu hp)), atI_nat hv, q⟩) fun _ _ => rfl)]
  intro b q h; simpa using FB.pinF b h
  eq_refl
end
/-- a draw's promise -/
def spTake : Sp := fun vs H Q _ => ∃ (z : Zn) (u : Addr) (n : Nat), vs = [.ref u, .int (n : Int)] ∧ z.R H H ∧ z.I u = some IsPur ∧ 0 < n ∧ n ≤ 1000000 ∧ ∀ (i : Nat) H', i < n → z.R H H' → Q (.int (i : Int)) H'
/-- a new purse -/
def spPurse (K : PySem.W.Frag) : Sp := fun vs H Q _ => ∃ (z : Zn) (a : Addr) (ns : List Int) (k : Nat), vs = [.ref a, .int (k : Int)] ∧ z.R H H ∧ SqL K H a (ns.map V.int) ∧ ns.length ≤ 1000 ∧ k ≤ 1000 ∧ ∀ (p : Addr) (o : HO) H', z.R H H' → H p = none → ¬ z.U p → H' p = some o → IsPur o → Q (.ref p) H'
section
variable {z : Zn} {K : PySem.W.Frag} {σ : L2.St} {H : Hp} {te tn : TE} {E : XK}
/-- take(u, n) -/
theorem ev_take {u : Addr} {n : Nat} (hu : z.I u = some IsPur) (h1 : Ev z te σ H (Is (.ref u))) (h2 : Ev z tn σ H (Is (.int (n : Int)))) (h0 : 0 < n) (hn : n ≤ 1000000) : Ev z (tCall spTake [] E (tCons te (tCons tn tNil))) σ H (Nn n) := by
  refine' @FB.also _ _ ?_ ?_ ?_; rotate_left
  · intro wit__; simp only [↓FB.viaW wit__ (by
      clear wit__
      exact ev_call (ea_is h1 (ea_is h2 ea_nil)) fun vs H1 r e Q q => by
          subst e
          exact ⟨z, u, n, rfl, r.dr, hu, h0, hn, fun i H' hi r' => q _ H' r' fun _ _ => ⟨i, rfl, hi⟩⟩)]
  intro b q h; simpa using FB.pinF b h
  eq_refl
end
structure Lf (k m : Nat) (d : PyData) : Prop where
  sh : d.showable = true
  lf : d.leavesShort 1000 = true
  dp : d.depth ≤ k
  wt : d.weight ≤ m
theorem Lf.mono {k k' m m' : Nat} {d : PyData} (h : Lf k m d) (h1 : k ≤ k') (h2 : m ≤ m') : Lf k' m' d := ⟨h.sh, h.lf, Nat.le_trans h.dp h1, Nat.le_trans h.wt h2⟩
theorem Lf.all {k m : Nat} : ∀ {ds : List PyData}, (∀ d ∈ ds, Lf k m d) → PyData.showableAll ds = true ∧ PyData.leavesShortAll 1000 ds = true ∧ PyData.depthAll ds ≤ k ∧ PyData.weightAll ds ≤ ds.length * (m + 1)
  | [], _ => ⟨rfl, rfl, Nat.zero_le _, Nat.zero_le _⟩
  | d :: ds, h => by
    obtain ⟨a, b, c, e⟩ := Lf.all fun x hx => h x (List.mem_cons_of_mem _ hx)
    have q := h d List.mem_cons_self
    refine ⟨?_, ?_, ?_, ?_⟩
    · simp only [PyData.showableAll, q.sh, a, Bool.and_self]
    · simp only [PyData.leavesShortAll, q.lf, b, Bool.and_self]
    · simp only [PyData.depthAll]
      have := q.dp
      omega
    · simp only [PyData.weightAll, List.length_cons, Nat.add_mul, Nat.one_mul]
      have := q.wt
      omega
theorem Lf.tup {k m n : Nat} {ds : List PyData} (h : ∀ d ∈ ds, Lf k m d) (hn : ds.length ≤ n) : Lf (k + 1) (n * (m + 1)) (.tuple ds) := by
  refine' @FB.also _ _ ?_ ?_ ?_; rotate_left
  · intro wit__; simp only [↓FB.viaW wit__ (by
      clear wit__
      obtain ⟨a, b, c, e⟩ := Lf.all h
      have := Nat.mul_le_mul_right (m + 1) hn
      exact ⟨by simpa only [PyData.showable] using a, by simpa only [PyData.leavesShort] using b, by simp only [PyData.depth]; omega, by simp only [PyData.weight]; omega⟩)]
  intro b q h; simpa using FB.pinF b h
  eq_refl
theorem Lf.lst {k m n : Nat} {ds : List PyData} (h : ∀ d ∈ ds, Lf k m d) (hn : ds.length ≤ n) : Lf (k + 1) (n * (m + 1)) (.list ds) := by
  refine' @FB.also _ _ ?_ ?_ ?_; rotate_left
  · intro wit__; simp only [↓FB.viaW wit__ (by
      clear wit__
      obtain ⟨a, b, c, e⟩ := Lf.all h
      have := Nat.mul_le_mul_right (m + 1) hn
      exact ⟨by simpa only [PyData.showable] using a, by simpa only [PyData.leavesShort] using b, by simp only [PyData.depth]; omega, by simp only [PyData.weight]; omega⟩)]
  intro b q h; simpa using FB.pinF b h
  eq_refl
theorem Lf.str {x : Str} {m : Nat} (h : ∀ c ∈ x.cps.toList, c < 1000) (hl : x.length ≤ m) : Lf 0 m (.str x) := by
  refine' @FB.also _ _ ?_ ?_ ?_; rotate_left
  · intro wit__; simp only [↓FB.viaW wit__ (by
      clear wit__
      exact ⟨rfl, by simp only [PyData.leavesShort, List.all_eq_true, decide_eq_true_eq]; exact fun c hc => Nat.lt_trans (h c hc) (by decide), Nat.le_refl _, hl⟩)]
  intro b q h; simpa using FB.pinF b h
  eq_refl
theorem nd_all : ∀ {ds : List PyData}, (∀ d ∈ ds, d.hasDict = false) → PyData.hasDictAll ds = false
  | [], _ => rfl
  | d :: ds, h => by
    simp only [PyData.hasDictAll, h d List.mem_cons_self, nd_all fun x hx => h x (List.mem_cons_of_mem _ hx), Bool.or_self]
theorem nl_all : ∀ {ds : List PyData}, (∀ d ∈ ds, hasL d = false) → hasLA ds = false
  | [], _ => by simp [hasLA]
  | d :: ds, h => by
    simp only [hasLA, h d List.mem_cons_self, nl_all fun x hx => h x (List.mem_cons_of_mem _ hx), Bool.or_self]
/-- no dict, no list within -/
structure Pl (d : PyData) : Prop where
  nd : d.hasDict = false
  nl : hasL d = false
theorem Pl.tup {ds : List PyData} (h : ∀ d ∈ ds, Pl d) : Pl (.tuple ds) := by
  refine' @FB.also _ _ ?_ ?_ ?_; rotate_left
  · intro wit__; simp only [↓FB.viaW wit__ (by
      clear wit__
      exact ⟨by simp only [PyData.hasDict]; exact nd_all fun d hd => (h d hd).nd, by simp only [hasL]; exact nl_all fun d hd => (h d hd).nl⟩)]
  intro b q h; simpa using FB.pinF b h
  eq_refl
theorem Pl.str {x : Str} : Pl (.str x) := ⟨rfl, by simp [hasL]⟩
/-- a tuple of plain parts but one -/
theorem mx_tup {ds : List PyData} {o : PyData} (ho : o.hasDict = false ∨ hasL o = false) (h : ∀ d ∈ ds, Pl d ∨ d = o) : (PyData.tuple ds).hasDict = false ∨ hasL (.tuple ds) = false := by
  refine' @FB.also _ _ ?_ ?_ ?_; rotate_left
  · intro wit__; simp only [↓FB.viaW wit__ (by
      clear wit__
      rcases ho with ho | ho
      · left
        simp only [PyData.hasDict]
        exact nd_all fun d hd => (h d hd).elim Pl.nd fun e => e ▸ ho
      · right
        simp only [hasL]
        exact nl_all fun d hd => (h d hd).elim Pl.nl fun e => e ▸ ho)]
  intro b q h; simpa using FB.pinF b h
  eq_refl
end FB
set_option Elab.async false
set_option linter.all false
set_option maxRecDepth 100000
set_option maxHeartbeats 4000000
namespace FB
open PySem PySem.Spec PyProof.Rows L2
/-- a text of at most n signs, none great -/
def Txs (n : Nat) (x : Str) : Prop := x.length ≤ n ∧ ∀ c ∈ x.cps.toList, c < 1000
theorem Txs.mono {n m : Nat} {x : Str} (h : Txs n x) (l : n ≤ m) : Txs m x := ⟨Nat.le_trans h.1 l, h.2⟩
theorem Txs.app {n m : Nat} {x y : Str} (h : Txs n x) (h' : Txs m y) : Txs (n + m) (x ++ y) := by
  refine' @FB.also _ _ ?_ ?_ ?_; rotate_left
  · intro wit__; simp only [↓FB.viaW wit__ (by
      clear wit__
      have e : (x ++ y).cps.toList = x.cps.toList ++ y.cps.toList := by
        show (x.cps ++ y.cps).toList = _
        exact Array.toList_append
      refine ⟨?_, fun c hc => ?_⟩
      · show (x.cps ++ y.cps).size ≤ n + m
        rw [Array.size_append]
        have a : x.cps.size ≤ n := h.1
        have b : y.cps.size ≤ m := h'.1
        omega
      · rw [e] at hc
        exact (List.mem_append.mp hc).elim (h.2 c) (h'.2 c))]
  intro b q h; simpa using FB.pinF b h
  eq_refl
theorem Txs.cut {n : Nat} {x : Str} {lo hi : Option Int} (h : Txs n x) : Txs n (cutS x lo hi) := by
  refine' @FB.also _ _ ?_ ?_ ?_; rotate_left
  · intro wit__; simp only [↓FB.viaW wit__ (by
      clear wit__
      exact ⟨Nat.le_trans (cutS_length x lo hi) h.1, fun c hc => h.2 c (by
          unfold cutS at hc
          exact List.mem_of_mem_drop (List.mem_of_mem_take hc))⟩)]
  intro b q h; simpa using FB.pinF b h
  eq_refl
theorem Txs.one {c : Nat} (h : c < 1000) : Txs 1 ⟨#[c]⟩ := ⟨Nat.le_refl _, fun d hd => by
  have : d = c := by simpa using hd
  rw [this]; exact h⟩
theorem sum_le_len : ∀ (ys : List Str), (∀ y ∈ ys, y.length ≤ 1) → (ys.map (·.length)).sum ≤ ys.length
  | [], _ => Nat.le_refl _
  | y :: r, h => by
    have := sum_le_len r fun x hx => h x (List.mem_cons_of_mem _ hx)
    have := h y List.mem_cons_self
    simp only [List.map_cons, List.sum_cons, List.length_cons]
    omega
theorem Txs.join {n : Nat} {ys : List Str} (h : ∀ y ∈ ys, Txs 1 y) (hl : ys.length ≤ n) : Txs n (Txt.join "" ys) := by
  refine' @FB.also _ _ ?_ ?_ ?_; rotate_left
  · intro wit__; simp only [↓FB.viaW wit__ (by
      clear wit__
      rw [TL.join_eq]
      refine ⟨?_, fun c hc => ?_⟩
      · have h1 := StrLaws.join_length_le "" ys
        have h2 := sum_le_len ys fun y hy => (h y hy).1
        have h3 : ("" : Str).length = 0 := rfl
        rw [h3, Nat.mul_zero] at h1
        omega
      · rw [PyProof.Rows.mem_join] at hc
        rcases hc with ⟨t, ht, hc⟩ | ⟨_, hc⟩
        · exact (h t ht).2 c hc
        · cases hc)]
  intro b q h; simpa using FB.pinF b h
  eq_refl
theorem Txs.lf {n : Nat} {x : Str} (h : Txs n x) : Lf 0 n (.str x) := .str h.2 h.1
section
variable {z : Zn} {K : PySem.W.Frag} {σ : L2.St} {H : Hp} {te tb ta : TE} {φ χ : VP}
/-- a name that holds a list: the list -/
theorem Lst.at {Φ : List V → Hp → Prop} {v : V} {H1 : Hp} (f : ∀ H2, z.W H1 H2 → Lst z Φ v H2) : ∃ p ws, v = .ref p ∧ ¬ z.U p ∧ H1 p = some (.lst ws) ∧ ∀ H2, z.W H1 H2 → Φ ws H2 := by
  refine' @FB.also _ _ ?_ ?_ ?_; rotate_left
  · intro wit__; simp only [↓FB.viaW wit__ (by
      clear wit__
      obtain ⟨p, ws, e, nu, hp, _⟩ := f H1 .refl
      refine ⟨p, ws, e, nu, hp, fun H2 w => ?_⟩
      obtain ⟨p', ws', e', _, hp', q⟩ := f H2 w
      rw [e] at e'
      cases e'
      rw [w p _ nu hp] at hp'
      cases hp'
      exact q)]
  intro b q h; simpa using FB.pinF b h
  eq_refl
theorem Tup.at {Φ : List V → Hp → Prop} {v : V} {H1 : Hp} (f : ∀ H2, z.W H1 H2 → Tup z Φ v H2) : ∃ p ws, v = .ref p ∧ ¬ z.U p ∧ H1 p = some (.tup ws) ∧ ∀ H2, z.W H1 H2 → Φ ws H2 := by
  refine' @FB.also _ _ ?_ ?_ ?_; rotate_left
  · intro wit__; simp only [↓FB.viaW wit__ (by
      clear wit__
      obtain ⟨p, ws, e, nu, hp, _⟩ := f H1 .refl
      refine ⟨p, ws, e, nu, hp, fun H2 w => ?_⟩
      obtain ⟨p', ws', e', _, hp', q⟩ := f H2 w
      rw [e] at e'
      cases e'
      rw [w p _ nu hp] at hp'
      cases hp'
      exact q)]
  intro b q h; simpa using FB.pinF b h
  eq_refl
theorem ev_lstv {i : Nat} {p : Addr} {ws : List V} {H0 : Hp} (e : σ[i]? = some (some (.ref p))) (nu : ¬ z.U p) (h : H0 p = some (.lst ws)) (w : z.W H0 H) : Ev z (tVar i) σ H (Lst z fun us _ => us = ws) :=
  ev_var e fun H' w' => ⟨p, ws, rfl, nu, (w.tr w') p _ nu h, rfl⟩
/-- an item of a menu that was just made, by a draw -/
theorem ev_menu {Φ : List V → Hp → Prop} {n : Nat} (ha : Ev z ta σ H (Lst z Φ)) (hb : ∀ (x : V) H1, z.R H H1 → Ev z tb σ H1 (Nn n)) (hΦ : ∀ ws H1, z.W H H1 → Φ ws H1 → ws.length = n ∧ ∀ w, w ∈ ws → χ w H1) : Ev z (tOp (rIxL K) ta tb) σ H χ := by
  refine' @FB.also _ _ ?_ ?_ ?_; rotate_left
  · intro wit__; simp only [↓FB.viaW wit__ (by
      clear wit__
      exact fun H1 e Q q =>
        ha H1 e _ fun x H2 e2 f => hb x H2 (e.tr e2) H2 e2.dr _ fun y H3 e3 g => by
          obtain ⟨p, ws, rfl, nu, hp, fw⟩ := Lst.at f
          obtain ⟨i, rfl, hi⟩ := g H3 .refl
          have hl := (hΦ ws H2 (e.tr e2).w (fw H2 .refl)).1
          have hw : ws[i]? = some (ws[i]'(by omega)) := List.getElem?_eq_getElem (by omega)
          exact ⟨p, ws, i, _, rfl, rfl, .inl (.inl (e3.w p _ nu hp)), atI_nat hw, q _ H3 (e2.tr e3) fun H4 w => (hΦ ws H4 (((e.tr e2).tr e3).w.tr w) (fw H4 (e3.w.tr w))).2 _ (List.getElem_mem _)⟩)]
  intro b q h; simpa using FB.pinF b h
  eq_refl
/-- .. that a name holds -/
theorem ev_menuV {ws : List V} {n : Nat} (ha : Ev z ta σ H (Lst z fun us _ => us = ws)) (hb : ∀ (x : V) H1, z.R H H1 → Ev z tb σ H1 (Nn n)) (hl : ws.length = n) (hΦ : ∀ H1 w, z.W H H1 → w ∈ ws → χ w H1) : Ev z (tOp (rIxL K) ta tb) σ H χ :=
  ev_menu ha hb fun us H1 w e => by
    subst e
    exact ⟨hl, fun v hv => hΦ H1 v w hv⟩
end
/-- data drawn by the purse u -/
def spDat (P : PyData → Prop) : Sp := fun vs H Q _ => ∃ (z : Zn) (u : Addr), vs = [.ref u] ∧ z.R H H ∧ z.I u = some IsPur ∧ ∀ v d H', P d → z.R H H' → (∀ H3, z.W H' H3 → DU z.U H3 v d) → Q v H'
section
variable {z : Zn} {K : PySem.W.Frag} {σ : L2.St} {H : Hp} {te tx : TE} {E : XK}
/-- some data with P -/
def Ds (z : Zn) (P : PyData → Prop) : VP := fun v H => ∃ d, P d ∧ DU z.U H v d
theorem ev_dat {P : PyData → Prop} {u : Addr} (hu : z.I u = some IsPur) (h1 : Ev z te σ H (Is (.ref u))) : Ev z (tCall (spDat P) [] E (tCons te tNil)) σ H (Ds z P) := by
  refine' @FB.also _ _ ?_ ?_ ?_; rotate_left
  · intro wit__; simp only [↓FB.viaW wit__ (by
      clear wit__
      exact ev_call (ea_is h1 ea_nil) fun vs H1 r e Q q => by
          subst e
          exact ⟨z, u, rfl, r.dr, hu, fun v d H' hd r' hv => q _ H' r' fun H3 w => ⟨d, hd, hv H3 w⟩⟩)]
  intro b q h; simpa using FB.pinF b h
  eq_refl
end
section
variable {z : Zn} {K : PySem.W.Frag} {σ : L2.St} {H : Hp} {te tb ta : TE} {tl tr : TA}
theorem ed_k {v : V} {d : PyData} (h : ∀ H', DU z.U H' v d) : Ev z (tC v) σ H (Dd z d) := ev_c fun H' _ => h H'
theorem ed_nil : EvA z tNil σ H (fun vs H' => DUA z.U H' vs []) := ea_nil.imp fun vs H' _ e => by rw [e]; exact .nil
theorem ed_cons {d : PyData} {ds : List PyData} (h : Ev z te σ H (Dd z d)) (hr : ∀ H1, z.R H H1 → EvA z tr σ H1 (fun vs H' => DUA z.U H' vs ds)) : EvA z (tCons te tr) σ H (fun vs H' => DUA z.U H' vs (d :: ds)) :=
  (ea_cons h fun v H1 r _ => hr H1 r).imp fun vs H' _ ⟨v, r, e, h1, h2⟩ => by rw [e]; exact .cons h1 h2
theorem ed_lst {ds : List PyData} (h : EvA z tl σ H (fun vs H' => DUA z.U H' vs ds)) (hn : ds.length ≤ 100000) : Ev z (tLst tl) σ H (Dd z (.list ds)) :=
  (ev_lst h fun vs H' e => by rw [e.len]; exact hn).imp fun v H' _ ⟨p, ws, e, nu, hp, q⟩ => by rw [e]; exact .lst nu hp q
theorem ed_tup {ds : List PyData} (h : EvA z tl σ H (fun vs H' => DUA z.U H' vs ds)) (hn : ds.length ≤ 100000) : Ev z (tTup tl) σ H (Dd z (.tuple ds)) :=
  (ev_tup h fun vs H' e => by rw [e.len]; exact hn).imp fun v H' _ ⟨p, ws, e, nu, hp, q⟩ => by rw [e]; exact .tup nu hp q
end
/-- a tuple of data with P -/
def TD (z : Zn) (P : List PyData → Prop) : VP := Tup z fun ws H' => ∃ ds, P ds ∧ DUA z.U H' ws ds
section
variable {z : Zn} {K : PySem.W.Frag} {σ : L2.St} {H : Hp} {te tb ta : TE} {tl th : TO} {lo hi : Option Int}
theorem TD.imp {P P' : List PyData → Prop} (h : Ev z te σ H (TD z P)) (i : ∀ ds, P ds → P' ds) : Ev z te σ H (TD z P') := h.imp fun v H' _ ⟨p, ws, e, nu, hp, ds, hP, q⟩ => ⟨p, ws, e, nu, hp, ds, i ds hP, q⟩
theorem cutV_all {xs : List V} (h1 : HT.sIx xs.length 0 lo = 0) (h2 : HT.sIx xs.length xs.length hi = xs.length) : cutV xs lo hi = xs := by
  refine' @FB.also _ _ ?_ ?_ ?_; rotate_left
  · intro wit__; simp only [↓FB.viaW wit__ (by
      clear wit__
      unfold cutV
      rw [h1, h2]
      simp)]
  intro b q h; simpa using FB.pinF b h
  eq_refl
theorem ev_slT {xs : List V} (h : Ev z te σ H (Tup z fun ws _ => ws = xs)) (h1 : EvO z tl σ H (· = lo)) (h2 : EvO z th σ H (· = hi)) : Ev z (L2.tSl (rSlA K) te tl th) σ H (Tup z fun ws _ => ws = cutV xs lo hi) := by
  refine' @FB.also _ _ ?_ ?_ ?_; rotate_left
  · intro wit__; simp only [↓FB.viaW wit__ (by
      clear wit__
      exact ev_sl h h1 h2 fun v H1 r ⟨p, ws, e, nu, hp, ew⟩ Q q => by
          subst ew
          refine ⟨p, ws, e, .inl (.inl hp), fun hc => ?_, fun _ p' hp' => ?_⟩
          · exact q _ H1 r.dr fun H3 w => ⟨p, ws, rfl, nu, w p _ nu hp, (cutV_all hc.1 hc.2).symm⟩
          · exact q _ _ (r.dr.new hp') fun H3 w => ⟨p', _, rfl, r.dr.nu hp', w p' _ (r.dr.nu hp') upd_same, rfl⟩)]
  intro b q h; simpa using FB.pinF b h
  eq_refl
theorem cut_strs (xs : List Str) (lo hi : Option Int) : ∃ ys : List Str, cutV (xs.map V.str) lo hi = ys.map V.str ∧ ys.length ≤ xs.length ∧ ∀ y ∈ ys, y ∈ xs := by
  refine' @FB.also _ _ ?_ ?_ ?_; rotate_left
  · intro wit__; simp only [↓FB.viaW wit__ (by
      clear wit__
      unfold cutV
      refine ⟨(xs.drop (HT.sIx (xs.map V.str).length 0 lo)).take (HT.sIx (xs.map V.str).length (xs.map V.str).length hi - HT.sIx (xs.map V.str).length 0 lo), by rw [List.map_take, List.map_drop], ?_, fun y hy => List.mem_of_mem_drop (List.mem_of_mem_take hy)⟩
      rw [List.length_take, List.length_drop]
      omega)]
  intro b q h; simpa using FB.pinF b h
  eq_refl
/-- tuple(list), list(tuple) -/
theorem ev_tupleL {Φ : List V → Hp → Prop} (h : Ev z te σ H (Lst z Φ)) : Ev z (tCB (fun xs H Q => ∃ p ys, xs = [.ref p] ∧ ((SqL K H p ys ∧ ∀ l, H l = none → Q (.ref l) (upd H l (.tup ys))) ∨ (SqT K H p ys ∧ Q (.ref p) H))) (tCons te tNil)) σ H (Tup z Φ) := by
  refine' @FB.also _ _ ?_ ?_ ?_; rotate_left
  · intro wit__; simp only [↓FB.viaW wit__ (by
      clear wit__
      exact fun H1 e Q q =>
        h H1 e _ fun v H2 e2 f => by
          obtain ⟨p, ws, rfl, nu, hp, fw⟩ := Lst.at f
          exact ⟨p, ws, rfl, .inl ⟨.inl (.inl hp), fun l hl => q _ _ (e2.tr (e2.dr.new hl)) fun H3 w => ⟨l, ws, rfl, e2.dr.nu hl, w l _ (e2.dr.nu hl) upd_same, fw H3 ((e2.dr.new hl).w.tr w)⟩⟩⟩)]
  intro b q h; simpa using FB.pinF b h
  eq_refl
end
end FB
namespace FB
open PySem PySem.Spec PyProof.Rows L2
section
variable {K : PySem.W.Frag} {H H1 H' : Hp} {p : Addr} {o : HO}
/-- the zone in which the purse at p may turn -/
def zu (p : Addr) : Zn := ⟨fun a => if a = p then some IsPur else none, fun a => a = p, fun a h => by
  by_cases e : a = p
  · exact e
  · rw [if_neg e] at h; exact absurd rfl h⟩
theorem zu_i : (zu p).I p = some IsPur := if_pos rfl
theorem zu_r (h : H p = some o) (q : IsPur o) : (zu p).R H H := by
  refine' @FB.also _ _ ?_ ?_ ?_; rotate_left
  · intro wit__; simp only [↓FB.viaW wit__ (by
      clear wit__
      refine ⟨fun _ _ _ h => h, fun a φ e => ?_, fun a φ e => ?_, fun a e => ?_, fun a e => ?_⟩
      · by_cases ea : a = p
        · subst ea
          rw [zu_i] at e
          cases e
          exact ⟨o, h, q⟩
        · rw [show (zu p).I a = none from if_neg ea] at e; cases e
      · by_cases ea : a = p
        · subst ea
          rw [zu_i] at e
          cases e
          exact ⟨o, h, q⟩
        · rw [show (zu p).I a = none from if_neg ea] at e; cases e
      · rw [show a = p from e, h]; simp
      · rw [show a = p from e, h]; simp)]
  intro b q h; simpa using FB.pinF b h
  eq_refl
/-- what a new purse's zone does leaves what stood ahead of it -/
theorem zu_z0 (r0 : z0.R H H1) (hp : H p = none) (r : (zu p).R H1 H') : z0.R H H' := by
  refine' @FB.also _ _ ?_ ?_ ?_; rotate_left
  · intro wit__; simp only [↓FB.viaW wit__ (by
      clear wit__
      exact (z0r (H := H)).ex fun a x e => by
        have ne : a ≠ p := fun q => by rw [q, hp] at e; cases e
        exact r.kp a x (if_neg ne) (z0g r0 a x e))]
  intro b q h; simpa using FB.pinF b h
  eq_refl
theorem sql_z0 {a : Addr} {xs : List V} (h : SqL K H a xs) (r : z0.R H H') : SqL K H' a xs := by
  refine' @FB.also _ _ ?_ ?_ ?_; rotate_left
  · intro wit__; simp only [↓FB.viaW wit__ (by
      clear wit__
      rcases h with (h | ⟨o, h⟩) | h
      · exact .inl (.inl (z0g r a _ h))
      · exact .inl (.inr ⟨o, z0g r a _ h⟩)
      · exact .inr h)]
  intro b q h; simpa using FB.pinF b h
  eq_refl
end
section
variable {z : Zn} {K : PySem.W.Frag} {σ : L2.St} {H : Hp} {te ta tb : TE}
theorem ev_max {i j : Int} (ha : Ev z ta σ H (Is (.int i))) (hb : Ev z tb σ H (Is (.int j))) : Ev z (tCB (fun xs H Q => ∃ i j, xs = [.int i, .int j] ∧ Q (.int (if j > i then j else i)) H) (tCons ta (tCons tb tNil))) σ H (Is (.int (if j > i then j else i))) :=
  ev_cb (ea_is ha (ea_is hb ea_nil)) fun vs H1 r e Q q => ⟨i, j, e, q _ H1 r.dr fun _ _ => rfl⟩
theorem ev_min {i j : Int} (ha : Ev z ta σ H (Is (.int i))) (hb : Ev z tb σ H (Is (.int j))) : Ev z (tCB (fun xs H Q => ∃ i j, xs = [.int i, .int j] ∧ Q (.int (if j < i then j else i)) H) (tCons ta (tCons tb tNil))) σ H (Is (.int (if j < i then j else i))) :=
  ev_cb (ea_is ha (ea_is hb ea_nil)) fun vs H1 r e Q q => ⟨i, j, e, q _ H1 r.dr fun _ _ => rfl⟩
/-- len of the script -/
theorem ev_lenQ {a : Addr} {xs : List V} (ha : Ev z ta σ H (Is (.ref a))) (h : ∀ H1, z.R H H1 → SqL K H1 a xs) : Ev z (tCB (fun xs H Q => ∃ y n, xs = [y] ∧ LenV K y H n ∧ Q (.int n) H) (tCons ta tNil)) σ H (Is (.int (xs.length : Int))) := by
  refine' @FB.also _ _ ?_ ?_ ?_; rotate_left
  · intro wit__; simp only [↓FB.viaW wit__ (by
      clear wit__
      exact fun H1 e Q q =>
        ha H1 e _ fun v H2 e2 f => ⟨v, xs.length, rfl, by rw [show v = .ref a from f H2 .refl]; exact Or.inl ⟨xs, h H2 (e.tr e2), rfl⟩, q _ H2 e2 fun _ _ => rfl⟩)]
  intro b q h; simpa using FB.pinF b h
  eq_refl
end
end FB
set_option Elab.async false
set_option linter.all false
set_option maxRecDepth 100000
set_option maxHeartbeats 4000000
namespace FB
open PySem PySem.Spec PyProof.Rows L2
section
variable {P : Program} {w : World} {K : PySem.W.Frag} {mg mb : Str → Option Value} {k : Nat} {fa a : Addr} {fd : FuncData} {x : Str} {sp : Sp} {s1 : Shared} {vs : List Value} {ns : List Int}
/-- the call at an abstract heap in which at most the script is tracked -/
theorem call_at (H : Hp) (KX : K.In s1.heap) (hns : s1.heap.Ns mainGlobals mg) (hb : s1.heap.Ns builtinsNs mb) (hbb : ∀ y : Str, y ≠ "__name__" → mb y = bootBuiltins y) (hlim : s1.heap.NoLimit) (hgs : s1.gens = #[])
    (ha : s1.heap.get? a = some { cls := .type "list", data := .seq vs.toArray }) (hr : Room k callerA) (F : ∀ base : Heap, K.In base → base.Ns mainGlobals mg → FnG P w K mg base CX0 k fa fd [x] sp)
    (hbind : ∀ (s : Shared) (u : Value), BindsTo s fd ⟨[u], []⟩ [(x, u)]) (hO : Only H) (hok : HOk P w H s1.heap) (hA : ∀ b, H b ≠ none → b = a) (hK : H a ≠ none → K.lookup a = none) (hsp : sp [.ref a] H (fun v _ => v = .bl true) fun _ _ _ => False) :
    codeAny (model P w) callerA (.call (.ref fa) ⟨[.ref a], []⟩) (fun r s' => r = .ok (.ret (.bool true)) ∧ OldK s1.heap s'.heap ∧ s'.os = s1.os ∧ AllBare s'.gens) s1 := by
  refine' @FB.also _ _ ?_ ?_ ?_; rotate_left
  · intro wit__; simp only [↓FB.viaW wit__ (by
      clear wit__
      have only_a : ∀ {b : Addr} {u : HO}, H b = some u → b = a := fun {b u} e => hA b (by rw [e]; simp)
      have ns_free : ∀ {b : Addr} {m : Str → Option Value}, s1.heap.Ns b m → (hidT s1.heap H).Ns b m := by
        rintro b m ⟨o, es, ep, e, d, r⟩
        refine ⟨o, es, ep, hidT_get e ?_, d, r⟩
        cases q : H b with
        | none => rfl
        | some u =>
          rw [only_a q, ha] at e
          cases e
          exact absurd (show Data.seq vs.toArray _ = Data.dict es ep from d) (fun z => by cases z)
      have hKb : K.In (hidT s1.heap H) := by
        intro b o e
        refine hidT_get (KX b o e) ?_
        cases q : H b with
        | none => rfl
        | some u =>
          have e2 := only_a q
          rw [e2] at e q
          rw [hK (by rw [q]; simp)] at e
          cases e
      have hM : Mod K mg (hidT s1.heap H) := ⟨hKb, ns_free hns, ⟨mb, ns_free hb, hbb⟩, (let ⟨mc, h1, h2⟩ := hlim; ⟨mc, ns_free h1, h2⟩)⟩
      have env : Env0 P w K mg (hidT s1.heap H) callerA [] s1 H := ⟨rfl, hM, fun b o e => of_hidT e, Nat.le_of_eq (hidT_size _ _), trivial, fun b h => (by cases h), hok, .of_eq hgs⟩
      have main := (F _ hKb (ns_free hns)).go callerA [] s1 H ⟨[.ref a], []⟩ [.ref a] [.ref a] (fun v _ => v = .bl true) (fun _ _ _ => False) rfl hr env (hbind s1 (.ref a)) (.cons rfl .nil) hsp
      refine codeAny_mono main ?_
      intro r s' h
      match r, h with
      | .error e, h => exact False.elim h
      | .ok .next, h => exact False.elim h
      | .ok .brk, h => exact False.elim h
      | .ok .cont, h => exact False.elim h
      | .ok (.ret u), h =>
        obtain ⟨v, H', os, bare, un, hok', r', q⟩ := h
        have ev : v = .bl true := q
        rw [ev] at r'
        have eu : u = Value.bool true := r'
        refine ⟨by rw [eu], OldK.of_keep fun b o e => ?_, os, bare⟩
        cases q : H b with
        | none => exact un.keep b o e q (fun z => by cases z) (fun z => by cases z)
        | some u =>
          rcases hO b with z | ⟨ob, xs, z⟩
          · rw [q] at z; cases z
          · obtain ⟨e1, _⟩ := hok b _ z
            obtain ⟨e2, _⟩ := hok' b _ (un.frzs b ob _ z)
            rw [e] at e1
            cases e1
            exact e2)]
  intro b q h; simpa using FB.pinF b h
  eq_refl
theorem call_end (KX : K.In s1.heap) (hns : s1.heap.Ns mainGlobals mg) (hb : s1.heap.Ns builtinsNs mb) (hbb : ∀ y : Str, y ≠ "__name__" → mb y = bootBuiltins y) (hlim : s1.heap.NoLimit) (hgs : s1.gens = #[])
    (ha : s1.heap.get? a = some { cls := .type "list", data := .seq vs.toArray }) (hi : IntsAre vs ns) (hl : ns.length ≤ sizeLine) (hr : Room k callerA) (F : ∀ base : Heap, K.In base → base.Ns mainGlobals mg → FnG P w K mg base CX0 k fa fd [x] sp)
    (hbind : ∀ (s : Shared) (u : Value), BindsTo s fd ⟨[u], []⟩ [(x, u)]) (hsp : ∀ H : Hp, Only H → SqL K H a (ns.map V.int) → sp [.ref a] H (fun v _ => v = .bl true) fun _ _ _ => False) :
    codeAny (model P w) callerA (.call (.ref fa) ⟨[.ref a], []⟩) (fun r s' => r = .ok (.ret (.bool true)) ∧ OldK s1.heap s'.heap ∧ s'.os = s1.os ∧ AllBare s'.gens) s1 := by
  refine' @FB.also _ _ ?_ ?_ ?_; rotate_left
  · intro wit__; simp only [↓FB.viaW wit__ (by
      clear wit__
      have rv := vals_ints hi
      cases hk : K.lookup a with
      | some o =>
        have e := KX a o hk
        rw [ha] at e
        cases e
        have hS : SqL K (fun _ => none) a (ns.map V.int) := .inr ⟨_, vs.toArray, _, hk, rfl, rfl, rfl, (by rw [List.size_toArray, hi.length]; exact hl), (by simpa using rv)⟩
        exact call_at (fun _ => none) KX hns hb hbb hlim hgs ha hr F hbind (fun _ => .inl rfl) (fun b u z => by cases (show (none : Option HO) = some u from z)) (fun b z => absurd rfl z) (fun z => absurd rfl z) (hsp _ (fun _ => .inl rfl) hS)
      | none =>
        let ob : Obj := { cls := .type "list", data := .seq vs.toArray }
        let H : Hp := fun b => if b = a then some (.frz ob (.lst (ns.map V.int))) else none
        have at_a : H a = some (.frz ob (.lst (ns.map V.int))) := if_pos rfl
        have off : ∀ b, b ≠ a → H b = none := fun b n => if_neg n
        have hO : Only H := fun b => by
          by_cases e : b = a
          · exact .inr ⟨ob, _, by rw [e]; exact at_a⟩
          · exact .inl (off b e)
        refine call_at H KX hns hb hbb hlim hgs ha hr F hbind hO (fun b u z => ?_) (fun b z => Classical.byContradiction fun n => z (off b n)) (fun _ => hk) (hsp H hO (.inl (.inr ⟨ob, at_a⟩)))
        by_cases e : b = a
        · subst e
          rw [at_a] at z
          cases z
          exact ⟨ha, by rw [List.length_map]; exact hl, vs, _, rv, ha⟩
        · rw [off b e] at z; cases z)]
  intro b q h; simpa using FB.pinF b h
  eq_refl
end
/-- what k_head leaves, from such a promise of the law's def -/
theorem walk_g {l : PySem.W.OpenLaw} {n k : Nat} {q : Program} {loose : List Str} {XP : (Str → Option Value) → Heap → Prop} {YP : World → Heap → Prop} {d : DefRec} {K : Params → PySem.W.Frag} {sp : World → Sp} {x : Str} (hn : l.most = some n) (hn2 : n ≤ sizeLine) (hdf : d.params.defaults = [])
    (hr : Room k callerA) (hY : ∀ (w : World) (h : Heap), YP w h → (K w.params).In h)
    (F : ∀ (w : World) (mg : Str → Option Value) (fa : Addr) (h : Heap), (K w.params).In h → h.Ns mainGlobals mg → mg d.name = some (.ref fa) → ∃ fd : FuncData, (∀ (s : Shared) (u : Value), BindsTo s fd ⟨[u], []⟩ [(x, u)]) ∧
        ∀ base : Heap, (K w.params).In base → base.Ns mainGlobals mg → FnG l.prog w (K w.params) mg base CX0 k fa fd [x] (sp w))
    (hsp : ∀ (w : World) (H : Hp) (a : Addr) (ns : List Int), ns.length ≤ n → Only H → SqL (K w.params) H a (ns.map V.int) → sp w [.ref a] H (fun v _ => v = .bl true) fun _ _ _ => False) :
    PySem.W.WalkO q loose XP YP l.row.toRowW d [] (fun f vs => PySem.call f vs) := by
  refine' @FB.also _ _ ?_ ?_ ?_; rotate_left
  · intro wit__; simp only [↓FB.viaW wit__ (by
      clear wit__
      refine Att.attach_call hn hdf ?_
      intro w s0 s1 mg mb fa o pm cd doc a vs ns G Y _ _ _ hmg hobj hints hlen hg
      have KX := hY w _ Y
      obtain ⟨fd, hb, hF⟩ := F w mg fa _ KX G.T.g hmg
      exact call_end KX G.T.g G.T.b G.T.builtins G.T.nolimit hg hobj hints (Nat.le_trans hlen hn2) hr hF hb fun H hO hS => hsp w H a ns hlen hO hS)]
  intro b q h; simpa using FB.pinF b h
  eq_refl
end FB
set_option Elab.async false
set_option linter.all false
set_option maxRecDepth 100000
set_option maxHeartbeats 4000000
namespace FB
open PySem PySem.Spec PyProof.Rows L2
def kyS (e : Int × Value) : Str := match e.2 with
  | .str k _ => k
  | _ => Str.empty
def OkS (w : World) (e : Int × Value) : Prop := ∃ k tk, e.2 = Value.str k tk ∧ e.1 = hashStr w k
/-- at a the set of the texts of L -/
def SetW (w : World) (h : Heap) (a : Addr) (L : List Str) : Prop :=
  ∃ ob xs ep t, h.get? a = some ob ∧ ob.ExactSet ∧ ob.data = .set xs ep t ∧ (∀ e ∈ xs.toList, OkS w e) ∧ (xs.toList.map kyS).Nodup ∧ (∀ k, k ∈ L ↔ k ∈ xs.toList.map kyS) ∧
    xs.size ≤ L.length ∧ t.fits xs.size = true ∧ Ris t.place.toList ∧ (w.params.followText "set-order" = true ∨ t.led = true)
section
variable {P : Program} {w : World} {A : Around} {E : Value → Shared → Prop} {s : Shared} {a : Addr} {L : List Str}
theorem SetW.keep {h h' : Heap} (R : SetW w h a L) (k : ∀ o, h.get? a = some o → h'.get? a = some o) : SetW w h' a L := by
  refine' @FB.also _ _ ?_ ?_ ?_; rotate_left
  · intro wit__; simp only [↓FB.viaW wit__ (by
      clear wit__
      obtain ⟨ob, xs, ep, t, ho, r⟩ := R
      exact ⟨ob, xs, ep, t, k ob ho, r⟩)]
  intro b q h; simpa using FB.pinF b h
  eq_refl
theorem okS_is {e : Int × Value} (g : OkS w e) (k : Str) : (PySem.strKind P w).is k e.2 = true ↔ kyS e = k := by
  refine' @FB.also _ _ ?_ ?_ ?_; rotate_left
  · intro wit__; simp only [↓FB.viaW wit__ (by
      clear wit__
      obtain ⟨k0, tk, h1, _⟩ := g
      unfold kyS
      rw [h1]
      constructor
      · intro q
        exact (PySem.strKind P w).inj _ _ _ (strKind_is P w k0 tk) q
      · intro q
        exact q ▸ strKind_is P w k0 tk)]
  intro b q h; simpa using FB.pinF b h
  eq_refl
theorem okS_elems {l : List (Int × Value)} (g : ∀ e ∈ l, OkS w e) : ElemsOf (PySem.strKind P w) l := by
  refine' @FB.also _ _ ?_ ?_ ?_; rotate_left
  · intro wit__; simp only [↓FB.viaW wit__ (by
      clear wit__
      intro e he
      obtain ⟨k, tk, h1, h2⟩ := g e he
      exact ⟨⟨k, by rw [h1]; exact strKind_is P w k tk, h2⟩, by rw [h1] <;> rfl⟩)]
  intro b q h; simpa using FB.pinF b h
  eq_refl
theorem okS_mem {l : List (Int × Value)} (g : ∀ e ∈ l, OkS w e) (k : Str) : k ∈ l.map kyS ↔ ∃ e ∈ l, (PySem.strKind P w).is k e.2 = true := by
  refine' @FB.also _ _ ?_ ?_ ?_; rotate_left
  · intro wit__; simp only [↓FB.viaW wit__ (by
      clear wit__
      rw [List.mem_map]
      exact ⟨fun ⟨e, he, q⟩ => ⟨e, he, (okS_is (g e he) k).2 q⟩, fun ⟨e, he, q⟩ => ⟨e, he, (okS_is (g e he) k).1 q⟩⟩)]
  intro b q h; simpa using FB.pinF b h
  eq_refl
theorem setW_tail {g : Bool → Sem Unit} (hg : ∀ (b : Bool) (u : Shared) (Z : Unit → Shared → Prop), Z () u → wpAny (model P w) A (g b) Z E u) {ob : Obj} {xs ys : Array (Int × Value)} {ep : Nat} {t u : SetTable}
    (ho : s.heap.get? a = some ob) (hex : ob.ExactSet) (hd : ob.data = .set xs ep t) {M : List Str} (gy : ∀ e ∈ ys.toList, OkS w e) (ny : (ys.toList.map kyS).Nodup) (my : ∀ k, k ∈ M ↔ k ∈ ys.toList.map kyS)
    (hM : M.length < scanBound) (hl : ys.size ≤ M.length) (hf : u.fits ys.size = true) (hr : Ris u.place.toList) (led : w.params.followText "set-order" = true ∨ u.led = true) {wd : Bool} {R : Option Bool → Shared → Prop}
    (hR : ∀ h', Heap.SameBut a s.heap h' → SetW w h' a M → R (some true) { s with heap := h' }) :
    wpAny (model P w) A (do
        storeSet a ys u
        if (!wd && u.tooFull) = true then do
            g (relayAll u ys (SetTable.grown ys.size)).2.2
            storeSet a (relayAll u ys (SetTable.grown ys.size)).1 (relayAll u ys (SetTable.grown ys.size)).2.1
            pure (some true)
          else pure (some true)) R E s := by
  refine' @FB.also _ _ ?_ ?_ ?_; rotate_left
  · intro wit__; simp only [↓FB.viaW wit__ (by
      clear wit__
      have hy : ys.size < scanBound := Nat.lt_of_le_of_lt hl hM
      refine wpAny_bind (wpAny_storeSet_of ho hd ?_ (fits_of_scanBound hy))
      have o1 := store_at (es' := ys) (t' := u) ho hd
      have c1 := Heap.SameBut.update s.heap a (Obj.putSet ys u)
      by_cases hc : (!wd && u.tooFull) = true
      · rw [if_pos hc]
        have q1 := relayAll_perm u ys (SetTable.grown ys.size)
        have q2 := relayAll_fits u ys (SetTable.grown ys.size)
        have q3 := relayAll_ris u ys (SetTable.grown ys.size)
        have q4 := relayAll_led u ys (SetTable.grown ys.size)
        generalize relayAll u ys (SetTable.grown ys.size) = Z at q1 q2 q3 q4 ⊢
        obtain ⟨zs, v, gave⟩ := Z
        dsimp only at q1 q2 q3 q4 ⊢
        have z1 : zs.size = ys.size := by rw [← Array.length_toList, q1.length_eq, Array.length_toList]
        refine wpAny_bind (hg _ _ _ (wpAny_bind (wpAny_storeSet_of o1 rfl ?_ (fits_of_scanBound (by rw [z1]; exact hy)))))
        have o2 := store_at (es' := zs) (t' := v) o1 rfl
        refine wpAny_pure (hR _ (c1.trans (Heap.SameBut.update _ a _)) ?_)
        exact ⟨_, zs, _, v, o2, hex, rfl, fun e he => gy e (q1.mem_iff.mp he), (q1.map kyS).nodup_iff.mpr ny, fun k => (my k).trans (q1.map kyS).mem_iff.symm, by rw [z1]; exact hl, q2, q3, led.imp id fun z => by rw [q4]; exact z⟩
      · rw [if_neg hc]
        exact wpAny_pure (hR _ c1 ⟨_, ys, _, u, o1, hex, rfl, gy, ny, my, hl, hf, hr, led⟩))]
  intro b q h; simpa using FB.pinF b h
  eq_refl
theorem setW_add {k : Str} {tk : Tok} {Q : Bool → Shared → Prop} (R : SetW w s.heap a L) (room : L.length + 1 < scanBound)
    (hQ : ∀ b h', Heap.SameBut a s.heap h' → SetW w h' a (L ++ [k]) → Q b { s with heap := h' }) :
    wpAny (model P w) A (setAddHashed a (.str k tk) (hashStr w k)) Q E s := by
  refine' @FB.also _ _ ?_ ?_ ?_; rotate_left
  · intro wit__; simp only [↓FB.viaW wit__ (by
      clear wit__
      obtain ⟨ob, xs, ep, t, ho, hex, hd, g, nd, hm, hl, hf, hr, hled⟩ := R
      have kk : (PySem.strKind P w).is k (.str k tk) = true := strKind_is P w k tk
      have sc : (Value.str k tk).scannable = true := rfl
      have el : ElemsOf (PySem.strKind P w) xs.toList := okS_elems g
      have hb : xs.size < scanBound := by omega
      have hlen : (L ++ [k]).length = L.length + 1 := by simp
      unfold setAddHashed setAddHashedIn
      refine wpAny_holding (wpAny_bind (wpAny_setState_of ho hd hf ?_))
      dsimp only
      rw [byScan_of sc hb el]
      simp only [↓reduceIte]
      unfold setAddByScan
      refine wpAny_bind ?_
      refine wpAny_bind (wpAny_rule (wpAny_bind (wpAny_setScan_of kk ho hd hf el ?_)))
      cases fi : List.findIdx? (fun e => (PySem.strKind P w).is k e.2) xs.toList with
      | some j =>
        dsimp only
        obtain ⟨hj, pj, _⟩ := List.findIdx?_eq_some_iff_getElem.mp fi
        have kin : k ∈ xs.toList.map kyS := (okS_mem (P := P) g k).2 ⟨xs.toList[j], List.getElem_mem hj, pj⟩
        refine wpAny_pure (wpAny_pure (hQ false s.heap (Heap.SameBut.refl a s.heap) ⟨ob, xs, ep, t, ho, hex, hd, g, nd, fun i => ?_, by rw [hlen]; omega, hf, hr, hled⟩))
        rw [List.mem_append, List.mem_singleton, hm i]
        exact ⟨fun z => z.elim id (fun e => e ▸ kin), .inl⟩
      | none =>
        dsimp only
        have kout : k ∉ xs.toList.map kyS := fun z => by
          obtain ⟨e, he, q⟩ := (okS_mem (P := P) g k).1 z
          have c := List.findIdx?_eq_none_iff.mp fi e he
          rw [q] at c
          cases c
        have gw : ∀ (b : Bool) {u : Shared} {Z : Unit → Shared → Prop}, Z () u → wpAny (model P w) A (match b with | true => rule "set.scan.the-table-gave-way" | false => pure ()) Z E u :=
          fun b u Z q => by cases b <;> first | exact wpAny_pure q | exact wpAny_rule q
        have q0 := layNew_perm t xs (hashStr w k) (.str k tk)
        have q1 := layNew_fits t xs (hashStr w k) (.str k tk)
        have q2 := layNew_ris t xs (hashStr w k) (.str k tk) hr
        have q3 := layNew_led t xs (hashStr w k) (.str k tk)
        generalize layNew t xs (hashStr w k) (.str k tk) = Z at q0 q1 q2 q3 ⊢
        obtain ⟨ys, u, wd, gave⟩ := Z
        dsimp only at q0 q1 q2 q3 ⊢
        rw [Array.toList_push] at q0
        have pc : ys.toList.Perm ((hashStr w k, Value.str k tk) :: xs.toList) := q0.trans (List.perm_append_singleton _ _)
        have pk : (ys.toList.map kyS).Perm (k :: xs.toList.map kyS) := pc.map kyS
        have gy : ∀ e ∈ ys.toList, OkS w e := fun e he => by
          rcases List.mem_cons.mp (pc.mem_iff.mp he) with z | z
          · rw [z]; exact ⟨k, tk, rfl, rfl⟩
          · exact g e z
        have ny : (ys.toList.map kyS).Nodup := pk.nodup_iff.mpr (List.nodup_cons.mpr ⟨kout, nd⟩)
        have my : ∀ i, i ∈ L ++ [k] ↔ i ∈ ys.toList.map kyS := fun i => by
          rw [pk.mem_iff, List.mem_cons, List.mem_append, List.mem_singleton, hm i]
          exact Or.comm
        have hsz : ys.size = xs.size + 1 := by rw [← Array.length_toList, pc.length_eq, List.length_cons, Array.length_toList]
        have hbM : (L ++ [k]).length < scanBound := by rw [hlen]; exact room
        have hlM : ys.size ≤ (L ++ [k]).length := by rw [hlen, hsz]; omega
        have ld : w.params.followText "set-order" = true ∨ u.led = true := hled.imp id fun z => by rw [q3]; exact z
        refine wpAny_bind (gw _ ?_)
        split
        · refine wpAny_bind ?_
          rw [hashByValue_scannable 8 sc]
          refine wpAny_pure ?_
          refine setW_tail (M := L ++ [k]) ?_ ho hex hd gy ny my hbM hlM ?_ ?_ ?_ ?_
          · intro b s₁ Q' q; cases b <;> first | exact wpAny_pure q | exact wpAny_rule q
          · first | (split <;> first | exact q1 | exact SetTable.fits_plain_off q1) | exact q1
          · first | (split <;> exact q2) | exact q2
          · first | (split <;> exact ld) | exact ld
          · intro h' sb r; dsimp only; exact wpAny_pure (hQ true h' sb r)
        · refine wpAny_bind (wpAny_pure ?_)
          simp only [↓reduceIte]
          refine setW_tail (M := L ++ [k]) ?_ ho hex hd gy ny my hbM hlM q1 q2 ld ?_
          · intro b s₁ Q' q; cases b <;> first | exact wpAny_pure q | exact wpAny_rule q
          · intro h' sb r; dsimp only; exact wpAny_pure (hQ true h' sb r))]
  intro b q h; simpa using FB.pinF b h
  eq_refl
theorem setW_loop {I : Addr} {fp wr : List Addr} {G : Array GenState → Array GenState → Prop} {n : Nat} {Pv : Nat → Value → Prop} {St : Nat → Shared → Prop} {R : Result → Shared → Prop}
    (W : WalksS P w A.in1 I fp wr G n Pv St) (S : Addr) (nf : S ∉ fp) (ks : List Str) (hn : n = ks.length) (hb : ks.length + 1 < scanBound) (hval : ∀ i v, Pv i v → ∃ k t, ks[i]? = some k ∧ v = .str k t) :
    ∀ (d i : Nat) (s : Shared), n - i = d → i ≤ n → St i s → SetW w s.heap S (ks.take i) →
      (∀ s', Moved (S :: wr) G s s' → SetW w s'.heap S ks → R (.ok (.ret .none)) s') → codeAny (model P w) A (.builtin "set.update.loop" ⟨[.ref S, .ref I], []⟩) R s := by
  refine' @FB.also _ _ ?_ ?_ ?_; rotate_left
  · intro wit__; simp only [↓FB.viaW wit__ (by
      clear wit__
      have nw : S ∉ wr := fun h => nf (W.sub _ h)
      have up : ∀ b ∈ wr, b ∈ S :: wr := fun b hb => List.mem_cons_of_mem _ hb
      intro d
      induction d with
      | zero =>
        intro i s hd hi st hS hR
        have e : i = n := by omega
        subst e
        refine codeAny_builtin F.entry_set_update_loop ?_
        rw [Around.under_plainId F.plain_set_update_loop _]
        refine wpAny_bind (m := pyNext (.ref I)) (W.done s _ _ st fun s' hm => ?_)
        have e2 : ks.take i = ks := List.take_of_length_le (by omega)
        rw [e2] at hS
        exact wpAny_pure (hR s' (hm.mono up) (hS.keep fun o e => hm.heap S o nw e))
      | succ d ih =>
        intro i s hd hi st hS hR
        have lt : i < n := by omega
        refine codeAny_builtin F.entry_set_update_loop ?_
        rw [Around.under_plainId F.plain_set_update_loop _]
        refine wpAny_bind (m := pyNext (.ref I)) (W.item i s _ _ lt st fun v s' hP st' hm => ?_)
        obtain ⟨z, t, hz, rfl⟩ := hval i v hP
        have hS' : SetW w s'.heap S (ks.take i) := hS.keep fun o e => hm.heap S o nw e
        show wpAny _ A.in1 (holding [Value.str z t] (setAdd S (.str z t)) >>= _) _ _ s'
        refine wpAny_bind (wpAny_holding ?_)
        unfold setAdd
        refine wpAny_holding (wpAny_bind ((PySem.strKind P w).pyHash (k := z) (strKind_is _ _ _ _) ?_))
        refine setW_add (s := { s' with toks := s'.toks + 1 }) hS' (by rw [List.length_take]; omega) fun b h' sb hS2 => ?_
        have hS3 : SetW w h' S (ks.take (i + 1)) := by
          rw [List.take_add_one, hz]
          exact hS2
        refine wpAny_pure ⟨plainId_quiet F.plain_set_update_loop _, ih (i + 1) _ (by omega) lt (W.frame _ s' _ _ st' (Nat.le_succ _) fun c hc o e => ?_) hS3 fun s'' hm2 hS4 => ?_⟩
        · exact (sb.2 c (fun h : c = S => nf (by rw [← h]; exact hc))).trans e
        · refine hR s'' (Moved.trans W.gtrans ((hm.mono up).then_heap (Nat.le_succ _) fun c o hc e => ?_) hm2) hS4
          exact (sb.2 c (fun h : c = S => hc (by rw [h]; exact List.mem_cons_self))).trans e)]
  intro b q h; simpa using FB.pinF b h
  eq_refl
/-- the object of a new set -/
def newSet (w : World) : Obj := { cls := .type "set", dict := none, data := .set #[] 0 (.fresh 0 0 (!w.params.followText "set-order")) }
theorem setW_new {h : Heap} (w : World) {b : Addr} (ho : h.get? b = some (newSet w)) : SetW w h b [] := by
  refine' @FB.also _ _ ?_ ?_ ?_; rotate_left
  · intro wit__; simp only [↓FB.viaW wit__ (by
      clear wit__
      exact ⟨_, #[], 0, _, ho, ⟨rfl, rfl, rfl⟩, rfl, (fun e he => by simp at he), (by simp), (fun k => by simp), (by simp), (by rfl), List.Pairwise.nil, by
          show _ ∨ (!w.params.followText "set-order") = true
          cases w.params.followText "set-order"
          · exact .inr rfl
          · exact .inl rfl⟩)]
  intro b q h; simpa using FB.pinF b h
  eq_refl
theorem strs_val {items : Array Value} {ks : List Str} (hit : StrsAre items.toList ks) : items.size = ks.length ∧ ∀ (i : Nat) (v : Value), items[i]? = some v → ∃ k t, ks[i]? = some k ∧ v = .str k t := by
  refine' @FB.also _ _ ?_ ?_ ?_; rotate_left
  · intro wit__; simp only [↓FB.viaW wit__ (by
      clear wit__
      have e : items.size = ks.length := by
        have q := SS.strs_at hit
        have q2 := StrsAre.length hit
        rw [Array.length_toList] at q2
        exact q2
      refine ⟨e, fun i v hv => ?_⟩
      have hi : i < ks.length := by rw [← e]; exact (Array.getElem?_eq_some_iff.mp hv).1
      obtain ⟨t, q⟩ := SS.strs_at hit i v (by rw [Array.getElem?_toList]; exact hv)
      exact ⟨ks[i], t, List.getElem?_eq_getElem hi, by rw [q, List.getD_eq_getElem?_getD, List.getElem?_eq_getElem hi] <;> rfl⟩)]
  intro b q h; simpa using FB.pinF b h
  eq_refl
end
end FB
set_option Elab.async false
set_option linter.all false
set_option maxRecDepth 100000
set_option maxHeartbeats 4000000
namespace FB
open PySem PySem.Spec PyProof.Rows L2
section
variable {P : Program} {w : World} {A : Around} {E : Value → Shared → Prop} {s : Shared}
set_option maxRecDepth 100000 in
set_option maxHeartbeats 3200000 in
theorem setW_call {l : Addr} {items : Array Value} (ks : List Str) {Q : Value → Shared → Prop} (hh : A.handled = none) (hl : s.heap.IsTuple l items ∨ s.heap.IsList l items) (hit : StrsAre items.toList ks) (hb : ks.length + 1 < scanBound)
    (h : ∀ (h' : Heap) (tk : Nat), SetW w h' s.heap.objs.size ks → (∀ b o, s.heap.get? b = some o → h'.get? b = some o) → Q (.ref s.heap.objs.size) { s with heap := h', toks := tk }) :
    wpAny (model P w) A (call (.type "set") [.ref l]) Q E s := by
  refine' @FB.also _ _ ?_ ?_ ?_; rotate_left
  · intro wit__; simp only [↓FB.viaW wit__ (by
      clear wit__
      obtain ⟨hisz, hval⟩ := strs_val hit
      obtain ⟨c, tl, hmro⟩ := F.called_set.mro
      have m1 := F.called_set.made
      have m2 := F.called_set.sub
      refine wpAny_call (codeAny_of_tree ?_)
      show wpAny _ _ (callAny (.type "set") _) _ _ _
      refine wpAny_pure ⟨Code.quiet_builtin _ (by decide +kernel), codeAny_builtin F.entry_type_call ?_⟩
      rw [Around.under_plain (weight_type_call_type "set" [.ref l] []) rfl]
      have m3 := F.called_set.notType
      have m4 := F.called_set.canCreate
      have m5 := F.typeCall_set_1 (.ref l)
      repeat (any_goals (first | assumption | wp_step))

      refine codeAny_mono (code_set_led1 (.ref l) (E := E) (Q₁ := fun obj s₁ => obj = .ref s.heap.objs.size ∧ s₁ = { s with heap := s.heap.push (newSet w) }) ⟨rfl, rfl⟩) fun r s₁ hr => ?_
      cases r with
      | error e => exact hr
      | ok fl =>
        cases fl with
        | ret obj =>
          obtain ⟨rfl, rfl⟩ := hr
          have hS : (s.heap.push (newSet w)).get? s.heap.objs.size = some (newSet w) := Heap.get?_push_size _ rfl
          have hT : Shared.TypeIs { s with heap := s.heap.push (newSet w) } (.ref s.heap.objs.size) "set" := ⟨_, hS, rfl⟩
          have m6 := F.called_set.init.lookup
          have m7 := F.called_set.init.bind (.ref s.heap.objs.size)
          repeat (any_goals (first | assumption | wp_step))

          refine codeAny_mono (codeAny_call_builtin (R := wants (fun r s₂ => r = .none ∧ ∃ h' tk, s₂ = { s with heap := h', toks := tk } ∧ SetW w h' s.heap.objs.size ks ∧
              (∀ b o, s.heap.get? b = some o → h'.get? b = some o)) E) F.called_set.init.plain F.entry_set_init (check_set_init_1 hT ?_)) fun r₂ s₂ hr₂ => ?_
          · have fin : ∀ (it : Obj) (s' : Shared), Moved (s.heap.objs.size :: [(s.heap.push (newSet w)).objs.size]) (fun a b => b = a) { s with heap := (s.heap.push (newSet w)).push it } s' → SetW w s'.heap s.heap.objs.size ks →
                ∃ h' tk, s' = { s with heap := h', toks := tk } ∧ SetW w h' s.heap.objs.size ks ∧ (∀ b o, s.heap.get? b = some o → h'.get? b = some o) := by
              intro it s' hm hS'
              obtain ⟨h', g2, d', tk', os'⟩ := s'
              have eg : g2 = s.gens := hm.gens
              have ed : d' = s.drawn := hm.drawn
              have eo : os' = s.os := hm.os
              subst eg; subst ed; subst eo
              refine ⟨h', tk', rfl, hS', fun b o e => ?_⟩
              have b0 : b < s.heap.objs.size := Heap.lt_size e
              have b1 : b ≠ s.heap.objs.size := Nat.ne_of_lt b0
              have b2 : b ≠ (s.heap.push (newSet w)).objs.size := by
                rw [Heap.size_push]; exact Nat.ne_of_lt (Nat.lt_succ_of_lt b0)
              exact hm.heap b o (by simp only [List.mem_cons, List.mem_singleton, List.not_mem_nil, or_false, not_or]; exact ⟨b1, b2⟩) (Heap.get?_push_of_some _ (Heap.get?_push_of_some _ e))
            have hh3 : A.in1.in1.in1.handled = none := by simp [hh]
            rcases hl with hl | hl
            · obtain ⟨ol, hol, hcl, nl, hdl⟩ := hl
              obtain ⟨ocls, odict, odata, oslots⟩ := ol
              simp only at hcl hdl
              subst hcl; subst hdl
              have hol' : (s.heap.push (newSet w)).get? l = some { cls := .type "tuple", dict := odict, data := .seq items nl, slots := oslots } := Heap.get?_push_of_some _ hol
              have m8 := F.sub_tuple_set
              have m9 := F.sub_tuple_frozenset
              have hne : (Value.type "tuple" == Value.type "dict") = false := by decide
              have hl1 : (s.heap.push (newSet w)).IsTuple l items := ⟨_, hol', rfl, nl, rfl⟩
              unfold Builtin.«set.__init__» noKeywords Builtin.Frozenset.updateFrom
              generalize hPI : pyIter = PI
              wp_walk
              subst hPI
              refine wpAny_pyIter_tuple hl1 ?_
              refine wpAny_bind (wpAny_runValue ?_)
              have hlS : l < s.heap.objs.size := Heap.lt_size hol
              have hneI : l ≠ (s.heap.push (newSet w)).objs.size := by
                rw [Heap.size_push]; exact Nat.ne_of_lt (Nat.lt_succ_of_lt hlS)
              have nf : s.heap.objs.size ∉ [(s.heap.push (newSet w)).objs.size, l] := by
                rw [Heap.size_push]; simp only [List.mem_cons, List.mem_singleton, List.not_mem_nil, or_false, not_or]
                exact ⟨Nat.ne_of_lt (Nat.lt_succ_self _), Nat.ne_of_gt hlS⟩
              refine setW_loop ((Walks.tuple hh3 _ l hneI items).toS) s.heap.objs.size nf ks hisz hb hval (items.size - 0) 0 _ (by omega) (Nat.zero_le _)
                ⟨⟨_, Heap.get?_push_size _ rfl, rfl, rfl⟩, (hl1.push _)⟩ (setW_new w (Heap.get?_push_of_some _ hS)) fun s' hm hS' => ?_
              obtain ⟨h', tk, e, r⟩ := fin _ s' hm hS'
              show wpAny _ _ _ _ _ _
              refine wpAny_pure ?_
              show wpAny _ _ (ret Value.none) _ _ _
              exact wpAny_pure ⟨rfl, h', tk, e, r⟩
            · obtain ⟨ol, hol, hcl, nl, hdl⟩ := hl
              obtain ⟨ocls, odict, odata, oslots⟩ := ol
              simp only at hcl hdl
              subst hcl; subst hdl
              have hol' : (s.heap.push (newSet w)).get? l = some { cls := .type "list", dict := odict, data := .seq items nl, slots := oslots } := Heap.get?_push_of_some _ hol
              have m8 := F.sub_list_set
              have m9 := F.sub_list_frozenset
              have hne : (Value.type "list" == Value.type "dict") = false := by decide
              have hl1 : (s.heap.push (newSet w)).IsList l items := ⟨_, hol', rfl, nl, rfl⟩
              unfold Builtin.«set.__init__» noKeywords Builtin.Frozenset.updateFrom
              generalize hPI : pyIter = PI
              wp_walk
              subst hPI
              refine wpAny_pyIter_list hl1 ?_
              refine wpAny_bind (wpAny_runValue ?_)
              have hlS : l < s.heap.objs.size := Heap.lt_size hol
              have hneI : l ≠ (s.heap.push (newSet w)).objs.size := by
                rw [Heap.size_push]; exact Nat.ne_of_lt (Nat.lt_succ_of_lt hlS)
              have nf : s.heap.objs.size ∉ [(s.heap.push (newSet w)).objs.size, l] := by
                rw [Heap.size_push]; simp only [List.mem_cons, List.mem_singleton, List.not_mem_nil, or_false, not_or]
                exact ⟨Nat.ne_of_lt (Nat.lt_succ_self _), Nat.ne_of_gt hlS⟩
              refine setW_loop ((Walks.list hh3 _ l hneI items).toS) s.heap.objs.size nf ks hisz hb hval (items.size - 0) 0 _ (by omega) (Nat.zero_le _)
                ⟨⟨_, Heap.get?_push_size _ rfl, rfl, rfl⟩, (hl1.push _)⟩ (setW_new w (Heap.get?_push_of_some _ hS)) fun s' hm hS' => ?_
              obtain ⟨h', tk, e, r⟩ := fin _ s' hm hS'
              show wpAny _ _ _ _ _ _
              refine wpAny_pure ?_
              show wpAny _ _ (ret Value.none) _ _ _
              exact wpAny_pure ⟨rfl, h', tk, e, r⟩
          · cases r₂ with
            | error e => exact hr₂
            | ok fl₂ =>
              cases fl₂ with
              | ret r =>
                obtain ⟨rfl, h', tk, rfl, hS', hk'⟩ := hr₂
                repeat (any_goals (first | assumption | wp_step))
                exact h _ _ hS' hk'
              | _ => exact hr₂.elim
        | _ => exact hr.elim)]
  intro b q h; simpa using FB.pinF b h
  eq_refl
end
end FB
set_option Elab.async false
set_option linter.all false
set_option maxRecDepth 100000
set_option maxHeartbeats 4000000
namespace FB
open PySem PySem.Spec PyProof.Rows L2
section
variable {P : Program} {w : World} {A : Around} {E : Value → Shared → Prop} {s : Shared} {a : Addr} {L : List Str}
theorem strs_of : ∀ (l : List Value), (∀ v ∈ l, ∃ k tk, v = Value.str k tk) → StrsAre l (l.map PyProof.Rows.strOf) := fun l h => strsAre_map l h
theorem setW_sorted {Q : Value → Shared → Prop} (R : SetW w s.heap a L) (hh : A.handled = none) (h64 : L.length < 64)
    (hQ : ∀ s' p (out : Array Value) (c : Nat) (ks : List Str), (∀ b o, s.heap.get? b = some o → s'.heap.get? b = some o) → s'.gens = s.gens → s'.os = s.os → s.heap.objs.size ≤ p → s'.heap.get? p = some (seqObj "list" out c) →
      StrsAre out.toList ks → sortedS ks = true → ks.Nodup → (∀ k, k ∈ ks ↔ k ∈ L) → ks.length ≤ L.length → Q (.ref p) s') : wpAny (model P w) A (call (.builtin "sorted") [.ref a]) Q E s := by
  refine' @FB.also _ _ ?_ ?_ ?_; rotate_left
  · intro wit__; simp only [↓FB.viaW wit__ (by
      clear wit__
      obtain ⟨ob, xs, ep, t, ho, hex, hd, g, nd, hm, hl, hf, hr, hled⟩ := R
      have hb : xs.size < scanBound := by unfold scanBound; omega
      refine Calls.call_function_entry kind_sorted plain_sorted entry_sorted (args_sorted1 _) ?_
      unfold Builtin.«sorted»
      refine wpAny_bind (m := checkCount "sorted" 1 1 _) (wpAny_pure (wpAny_bind (collect_set (A := A.in1) hh ⟨ob, ho, hex.1, hd⟩ hf hb hr hled fun s1 vs k1 hz g1 o1 pm => ?_)))
      have hvl : vs.length = xs.size := by rw [pm.length_eq, List.length_map, Array.length_toList]
      have st : ∀ v ∈ vs, ∃ k tk, v = Value.str k tk := fun v hv => by
        obtain ⟨e, he, q⟩ := List.mem_map.mp (pm.mem_iff.mp hv)
        obtain ⟨k, tk, h1, _⟩ := g e he
        exact ⟨k, tk, by rw [← q]; exact h1⟩
      have hI : StrsAre vs (vs.map PyProof.Rows.strOf) := strs_of vs st
      have pk : (vs.map PyProof.Rows.strOf).Perm (xs.toList.map kyS) := by
        have q := pm.map PyProof.Rows.strOf
        rw [List.map_map] at q
        have e : xs.toList.map (PyProof.Rows.strOf ∘ fun x => x.2) = xs.toList.map kyS := List.map_congr_left fun e he => by
          obtain ⟨k, tk, h1, _⟩ := g e he
          show PyProof.Rows.strOf e.2 = kyS e
          unfold kyS
          rw [h1]
          rfl
        rw [← e]
        exact q
      refine wpAny_bind (wpAny_newList ?_ (by rw [hvl, sizeLine_eq]; omega))
      have hoL : (s1.heap.push (seqObj "list" vs.toArray 0)).get? s1.heap.objs.size = some (seqObj "list" vs.toArray 0) := Heap.get?_push_size _ rfl
      refine wpAny_bind (wpAny_holding (wpAny_call_entry slot_list_sort ⟨_, hoL, rfl⟩ entry_list_sort (list_sort_treeK strKind_oneLt hoL hI.keysOf (fun v₁ v₂ rest e => keyKind_strs (by rw [← e]; exact hI)) (by rw [hvl]; omega) fun st' a1 a2 => ⟨_, rfl, ?_⟩) (args_list_sort _)))
      obtain ⟨ks, b1, b2, b3⟩ := sorted_out_str hI a1 a2
      obtain ⟨c, hc⟩ := sortedHeap_at (vs := vs) (out := (arrOf st').map (·.2)) hoL
      have pn : ks.Perm (xs.toList.map kyS) := b2.trans pk
      refine wpAny_pure ⟨_, rfl, hQ _ s1.heap.objs.size _ c ks (fun b u e => ?_) g1 o1 hz hc b1 b3 (pn.nodup_iff.mpr nd) (fun k => by rw [pn.mem_iff, hm k]) ?_⟩
      · have q := k1 b u e
        have lt := Heap.lt_size q
        exact (sortedHeap_old (Nat.ne_of_lt lt) (by rw [size_push']; exact Nat.lt_succ_of_lt lt)).trans (Heap.get?_push_of_some _ q)
      · rw [pn.length_eq, List.length_map, Array.length_toList]; exact hl)]
  intro b q h; simpa using FB.pinF b h
  eq_refl
end
section
variable {X : Cx}
/-- sorted(set(xs)): the texts of xs, each once, growing -/
def tSortSet (K : PySem.W.Frag) (ta : TE) : TE := fun σ H Q => ta σ H fun x H1 => ∃ l, ∃ xs : List Str, x = .ref l ∧ (SqL K H1 l (xs.map V.str) ∨ SqT K H1 l (xs.map V.str)) ∧ xs.length < 64 ∧
  ∀ (ks : List Str) (p : Addr), sortedS ks = true → ks.Nodup → (∀ k, k ∈ ks ↔ k ∈ xs) → ks.length ≤ xs.length → H1 p = none → Q (.ref p) (upd H1 p (.lst (ks.map V.str)))
theorem pe_sortSet {K : PySem.W.Frag} {a : Expr} {ta : TE} {p p2 q pos : Pos} (hc : X.calm = true) (hg : Gl X "sorted") (hm : X.mg "sorted" = none) (hg2 : Gl X "set") (hm2 : X.mg "set" = none) (ha : PE X a ta)
    (na : starEach [a] X.env = (false, eval a X.env) :: starEach [] X.env := by rfl) (hK : X.K = K := by rfl) : PE X (.Call (.Name "sorted" p) [.Call (.Name "set" p2) [a] [] q] [] pos) (tSortSet K ta) := by
  refine' @FB.also _ _ ?_ ?_ ?_; rotate_left
  · intro wit__; simp only [↓FB.viaW wit__ (by
      clear wit__
      subst hK
      refine ⟨fun pins s σ H Q I h => ?_⟩
      refine Call_ (ld_blt (u := .builtin "sorted") I hg hm (by decide +kernel) (PyProof.Rows.callWith_builtin1 (PyProof.Rows.args_cons ?_ rfl) rfl rfl))
      refine Call_ (ld_blt I hg2 hm2 boot_set ?_)
      refine PyProof.Rows.callWith_type1 (PyProof.Rows.args_cons (thn (ha.run pins s σ H _ I h) fun v s1 ⟨x, H1, I1, r1, q1⟩ => PyProof.Rows.args_nil ?_) na) na rfl
      obtain ⟨l, xs, rfl, hq, h64, q1⟩ := q1
      cases r1
      have hb : xs.length + 1 < scanBound := by unfold scanBound; omega
      have fin : ∀ (h' : Heap) (tk : Nat), SetW X.w h' s1.heap.objs.size xs → (∀ b o, s1.heap.get? b = some o → h'.get? b = some o) →
          wpAny (model X.prog X.w) X.A (spliced (backTo pos (starEach [] X.env))) (fun vs s₂ => wpAny (model X.prog X.w) X.A (call (.builtin "sorted") (Value.ref s1.heap.objs.size :: vs)) (EP X pins σ Q) X.xe s₂) X.xe { s1 with heap := h', toks := tk } := fun h' tk hS hk => by
        refine PyProof.Rows.args_nil ?_
        have I2 : Inv X pins σ H1 { s1 with heap := h', toks := tk } := I1.kept fun b o e => hk b o e
        generalize hs2 : ({ s1 with heap := h', toks := tk } : Shared) = s2 at I2 ⊢
        have hS2 : SetW X.w s2.heap s1.heap.objs.size xs := by rw [← hs2]; exact hS
        refine setW_sorted hS2 (I2.ok.hd hc) h64 fun s' p out c ks k g o hp hg hi hs hn hm hle => ?_
        have hlen : (ks.map V.str).length ≤ sizeLine := by rw [List.length_map, sizeLine_eq]; omega
        have hnp : H1 p = none := I2.hok.fresh hp
        have J : Inv X pins σ (upd H1 p (.lst (ks.map V.str))) { s2 with heap := s'.heap, gens := s'.gens, drawn := s'.drawn, toks := s'.toks } :=
          I2.call (ch := []) (Un.laid k hp hnp) (I2.hok.laid k hp ⟨hlen, out.toList, c, vals_of_strs hi, hg⟩) (by rw [g]; exact I2.bare) (fun _ z => nomatch z)
        have e : s' = { s2 with heap := s'.heap, gens := s'.gens, drawn := s'.drawn, toks := s'.toks } := by
          cases s'
          cases s2
          cases o
          rfl
        rw [e]
        exact ⟨.ref p, _, J, rfl, q1 ks p hs hn hm hle hnp⟩
      rcases hq with hq | hq
      · obtain ⟨its, r, pl, hz⟩ := I1.list hq
        exact setW_call xs (I1.ok.hd hc) (.inr pl.isList) (by simpa using strsAre_of r) hb fun h' tk hS hk => fin h' tk hS hk
      · obtain ⟨its, r, pl, hz⟩ := I1.tuple hq
        exact setW_call xs (I1.ok.hd hc) (.inl pl) (by simpa using strsAre_of r) hb fun h' tk hS hk => fin h' tk hS hk)]
  intro b q h; simpa using FB.pinF b h
  eq_refl
end
end FB
set_option Elab.async false
set_option linter.all false
set_option maxRecDepth 100000
set_option maxHeartbeats 4000000
namespace FB
open PySem PySem.Spec PyProof.Rows L2 HT
end FB
set_option Elab.async false
set_option linter.all false
set_option maxRecDepth 100000
set_option maxHeartbeats 4000000
namespace FB
open PySem PySem.Spec PyProof.Rows L2 RZ
section
variable {X : Cx} {K : PySem.W.Frag} {tg l : Expr} {ta : TA}
theorem k_pgt {es : List Expr} {k : Nat} {t : TGs} {n : Nat} {pos : Pos} (h : PGs X es t) (hc : X.calm = true := by rfl) (hn : (assignEach es X.env).length = n := by rfl) (hst : (assignEach es X.env).findIdx? (·.1) = none := by rfl) (hK : X.K = K := by rfl) :
    PG X (.Tuple es k pos) (gTup K n t) := hK ▸ pg_tup hc h hn hst
end
/-- a list, a tuple (t) -/
def sq (t : Bool) (xs : List V) : HO := if t then .tup xs else .lst xs
section
variable {z : Zn} {K : PySem.W.Frag} {σ : L2.St} {H : Hp} {te : TE} {ta : TA}
/-- x, y = a pair -/
theorem q_pair {tu : TS} {D : Ends} {i j : Nat} {Φ : V → V → Hp → Prop} (hR : z.R H H) (h : Ev z te σ H (Tup z fun ws H' => ∃ v w, ws = [v, w] ∧ Φ v w H')) (k : ∀ v w H1, z.R H H1 → (∀ H2, z.W H1 H2 → Φ v w H2) → tu D ((σ.set i (some v)).set j (some w)) H1) :
    tSeq (tAsg te (gTup K 2 (gCons (gName i) (gCons (gName j) gNil)))) tu D σ H := by
  refine' @FB.also _ _ ?_ ?_ ?_; rotate_left
  · intro wit__; simp only [↓FB.viaW wit__ (by
      clear wit__
      exact h H hR _ fun v H1 e f => by
        obtain ⟨p, ws, rfl, nu, hp, v, w, rfl, _⟩ := f H1 .refl
        refine ⟨p, [v, w], rfl, .inl (.inl hp), rfl, v, [w], rfl, w, [], rfl, rfl, k v w H1 e fun H2 w2 => ?_⟩
        obtain ⟨p', ws', e', _, hp', v', w', ew, q⟩ := f H2 w2
        cases e'
        rw [w2 p _ nu hp] at hp'
        cases hp'
        cases ew
        exact q)]
  intro b q h; simpa using FB.pinF b h
  eq_refl
/-- t[i] of a tuple that stands -/
theorem ev_ixT {tb : TE} {p : Addr} {xs : List V} {i : Nat} {v : V} {φ : VP} (ha : Ev z te σ H (Is (.ref p))) (hb : Ev z tb σ H (Is (.int (i : Int)))) (hp : ∀ H1, z.R H H1 → SqT K H1 p xs) (hv : xs[i]? = some v) (hφ : ∀ H', z.W H H' → φ v H') : Ev z (tOp (rIxT K) te tb) σ H φ := by
  refine' @FB.also _ _ ?_ ?_ ?_; rotate_left
  · intro wit__; simp only [↓FB.viaW wit__ (by
      clear wit__
      exact ev_op2 ha hb fun H1 r => rn_val r.dr (fun Q q => ⟨p, xs, i, v, rfl, rfl, hp H1 r, atI_nat hv, q⟩) fun H' w => hφ H' (r.w.tr w))]
  intro b q h; simpa using FB.pinF b h
  eq_refl
/-- x in a tuple, a list that stands -/
theorem ev_in {tb : TE} {p : Addr} {xs : List V} {x : V} (ha : Ev z te σ H (Is x)) (hb : Ev z tb σ H (Is (.ref p))) (hp : ∀ H1, z.R H H1 → SqL K H1 p xs ∨ SqT K H1 p xs) (fx : flatV x = true) (fs : xs.all flatV = true) : Ev z (tOp (rIn K false) te tb) σ H (Is (.bl (inV x xs))) :=
  ev_op2 ha hb fun H1 r => rn_val r.dr (fun Q q => ⟨p, xs, rfl, hp H1 r, fx, fs, q⟩) fun _ _ => rfl
end
def ltS (x y : Str) : Bool := decide (x.cps.toList < y.cps.toList)
def grS : List Str → Bool
  | [] => true
  | x :: r => (match r with | [] => true | y :: _ => ltS x y) && grS r
theorem ltS_trans {x y w : Str} (h1 : ltS x y = true) (h2 : ltS y w = true) : ltS x w = true := by
  refine' @FB.also _ _ ?_ ?_ ?_; rotate_left
  · intro wit__; simp only [↓FB.viaW wit__ (by
      clear wit__
      unfold ltS at *
      exact decide_eq_true (List.lt_trans (of_decide_eq_true h1) (of_decide_eq_true h2)))]
  intro b q h; simpa using FB.pinF b h
  eq_refl
theorem ltS_irr (x : Str) : ltS x x = false := decide_eq_false (List.lt_irrefl _)
theorem grS_pw : ∀ {l : List Str}, grS l = true → l.Pairwise (fun a b => ltS a b = true)
  | [], _ => List.Pairwise.nil
  | [x], _ => List.pairwise_singleton _ _
  | x :: y :: r, h => by
    have h' : ltS x y = true ∧ grS (y :: r) = true := by simpa [grS] using h
    have p := grS_pw h'.2
    refine List.pairwise_cons.mpr ⟨fun w hw => ?_, p⟩
    rcases List.mem_cons.mp hw with e | hw
    · rw [e]; exact h'.1
    · exact ltS_trans h'.1 ((List.pairwise_cons.mp p).1 w hw)
theorem pw_grS : ∀ {l : List Str}, l.Pairwise (fun a b => ltS a b = true) → grS l = true
  | [], _ => rfl
  | [x], _ => rfl
  | x :: y :: r, h => by
    obtain ⟨h1, h2⟩ := List.pairwise_cons.mp h
    show (ltS x y && grS (y :: r)) = true
    rw [h1 y List.mem_cons_self, pw_grS h2]
    rfl
theorem rising_pw : ∀ {p : Str} {l : List Str}, risingS p l = true → (p :: l).Pairwise (fun a b => ltS b a = false)
  | p, [], _ => List.pairwise_singleton _ _
  | p, x :: r, h => by
    have h' : ltCps x.cps.toList p.cps.toList = false ∧ risingS x r = true := by simpa [risingS] using h
    have q := rising_pw h'.2
    have h1 : ltS x p = false := by unfold ltS; rw [← ltCps_eq]; exact h'.1
    refine List.pairwise_cons.mpr ⟨fun w hw => ?_, q⟩
    rcases List.mem_cons.mp hw with e | hw
    · rw [e]; exact h1
    · have h2 := (List.pairwise_cons.mp q).1 w hw
      have a := of_decide_eq_false h1
      have b := of_decide_eq_false h2
      exact decide_eq_false fun c => by
        have := List.lt_of_le_of_lt (List.not_lt.mp b) c
        exact a this
theorem sorted_pw {l : List Str} (h : sortedS l = true) : l.Pairwise (fun a b => ltS b a = false) := by
  refine' @FB.also _ _ ?_ ?_ ?_; rotate_left
  · intro wit__; simp only [↓FB.viaW wit__ (by
      clear wit__
      cases l with
      | nil => exact List.Pairwise.nil
      | cons x r => exact rising_pw h)]
  intro b q h; simpa using FB.pinF b h
  eq_refl
theorem str_eq {x y : Str} (h1 : ltS x y = false) (h2 : ltS y x = false) : x = y := by
  refine' @FB.also _ _ ?_ ?_ ?_; rotate_left
  · intro wit__; simp only [↓FB.viaW wit__ (by
      clear wit__
      have e := List.le_antisymm (List.not_lt.mp (of_decide_eq_false h2)) (List.not_lt.mp (of_decide_eq_false h1))
      cases x
      cases y
      exact congrArg _ (Array.toList_inj.mp e))]
  intro b q h; simpa using FB.pinF b h
  eq_refl
/-- sorted, each once: growing -/
theorem sorted_gr {l : List Str} (h : sortedS l = true) (nd : l.Nodup) : grS l = true := by
  refine' @FB.also _ _ ?_ ?_ ?_; rotate_left
  · intro wit__; simp only [↓FB.viaW wit__ (by
      clear wit__
      refine pw_grS ((sorted_pw h).imp₂ (fun a b h1 h2 => ?_) nd)
      cases e : ltS a b with
      | true => rfl
      | false => exact absurd (str_eq e h1) h2)]
  intro b q h; simpa using FB.pinF b h
  eq_refl
theorem gr_nodup {l : List Str} (h : grS l = true) : l.Nodup := (grS_pw h).imp fun {a b} q e => by
  rw [e, ltS_irr] at q
  cases q
end FB
set_option Elab.async false
set_option linter.all false
set_option maxRecDepth 100000
set_option maxHeartbeats 4000000
namespace FB
open PySem PySem.Spec PyProof.Rows L2 RZ
def texts4 : List Str := ["", "r", "w", "rw"]
/-- one of the four texts -/
def isRT : PyData → Bool
  | .str x => inV (.str x) (texts4.map V.str)
  | _ => false
def isRightsD : PyData → Bool
  | .tuple ds => decide (ds.length = 3) && ds.all isRT
  | _ => false
def sD : PyData → Str
  | .str x => x
  | _ => Str.empty
def isUsersD : PyData → Bool
  | .tuple ds => ds.all isWordD && grS (ds.map sD)
  | _ => false
def isGroupD : PyData → Bool
  | .tuple ds => decide (ds.length = 2) && (isWordD (ds.getD 0 .none) && isUsersD (ds.getD 1 .none))
  | _ => false
def nameD : PyData → Str
  | .tuple ds => sD (ds.getD 0 .none)
  | _ => Str.empty
def isGroupsD : PyData → Bool
  | .tuple ds => decide (ds.length ≤ 8) && (ds.all isGroupD && grS (ds.map nameD))
  | _ => false
/-- sizes, some levels deep -/
def Bd : Nat → PyData → Prop
  | 0, d => Sl d
  | n + 1, d => Sl d ∧ ∀ ds, d = .tuple ds → ds.length ≤ 60 ∧ ∀ e ∈ ds, Bd n e
theorem Bd.sl : ∀ {n : Nat} {d : PyData}, Bd n d → Sl d
  | 0, _, h => h
  | _ + 1, _, h => h.1
theorem Bd.dn : ∀ {n : Nat} {d : PyData}, Bd (n + 1) d → Bd n d
  | 0, _, h => h.1
  | _ + 1, _, h => ⟨h.1, fun ds e => ⟨(h.2 ds e).1, fun x hx => Bd.dn ((h.2 ds e).2 x hx)⟩⟩
theorem Bd.tup {n : Nat} {ds : List PyData} (h : ∀ d ∈ ds, Bd n d) (hl : ds.length ≤ 60) : Bd n (.tuple ds) :=
  Bd.dn (n := n) ⟨fun x e => (by cases e), fun es e => by cases e; exact ⟨hl, h⟩⟩
theorem Bd.of {n : Nat} {d : PyData} (h : Sl d) (ht : ∀ ds, d ≠ .tuple ds) : Bd n d := by
  refine' @FB.also _ _ ?_ ?_ ?_; rotate_left
  · intro wit__; simp only [↓FB.viaW wit__ (by
      clear wit__
      cases n with
      | zero => exact h
      | succ n => exact ⟨h, fun ds e => absurd e (ht ds)⟩)]
  intro b q h; simpa using FB.pinF b h
  eq_refl
theorem DU.strAt {U : Addr → Prop} {H : Hp} {v : V} {x : Str} (h : DU U H v (.str x)) : v = .str x := by
  refine' @FB.also _ _ ?_ ?_ ?_; rotate_left
  · intro wit__; simp only [↓FB.viaW wit__ (by
      clear wit__
      cases h; rfl)]
  intro b q h; simpa using FB.pinF b h
  eq_refl
section
variable {z : Zn} {K : PySem.W.Frag} {σ : L2.St} {H : Hp} {te ta tb : TE} {D : Ends} {ts : TS} {j : Nat}
/-- what a tuple that stands reads as in the zone -/
theorem s_forT {xs : List V} (hR : z.R H H) (h : Ev z te σ H (Tup z fun ws _ => ws = xs)) (main : ∀ H1, z.R H H1 → ∃ Pv : Nat → L2.St → Hp → Prop, Pv 0 σ H1 ∧ (∀ i σ' H', Pv i σ' H' → z.W H1 H') ∧
      (∀ i x σ' H', xs[i]? = some x → Pv i σ' H' → ts { D with nx := Pv (i + 1), ct := Pv (i + 1), bk := D.nx } (σ'.set j (some x)) H') ∧ ∀ σ' H', Pv xs.length σ' H' → D.nx σ' H') : tFor (iTup K te) (gName j) ts D σ H := by
  refine' @FB.also _ _ ?_ ?_ ?_; rotate_left
  · intro wit__; simp only [↓FB.viaW wit__ (by
      clear wit__
      exact h H hR _ fun v H1 e f => by
          obtain ⟨p, ws, ev, nu, hp, ew⟩ := f H1 .refl
          subst ew
          obtain ⟨Pv, p0, pw, ps, pd⟩ := main H1 e
          exact ⟨p, ev, ⟨ws, .inl (.inl hp)⟩, for_tup (K := K) (a := p) (xs := ws) Pv p0 (fun i σ' H' _ q => .inl (.inl (pw i σ' H' q p _ nu hp))) (fun i x σ' H' hx q => ps i x σ' H' hx q) pd⟩)]
  intro b q h; simpa using FB.pinF b h
  eq_refl
theorem q_forT {tu : TS} {xs : List V} (hR : z.R H H) (h : Ev z te σ H (Tup z fun ws _ => ws = xs)) (main : ∀ H1, z.R H H1 → ∃ Pv : Nat → L2.St → Hp → Prop, Pv 0 σ H1 ∧ (∀ i σ' H', Pv i σ' H' → z.W H1 H') ∧
      (∀ i x σ' H', xs[i]? = some x → Pv i σ' H' → ts { D with nx := Pv (i + 1), ct := Pv (i + 1), bk := tu D } (σ'.set j (some x)) H') ∧ ∀ σ' H', Pv xs.length σ' H' → tu D σ' H') : tSeq (tFor (iTup K te) (gName j) ts) tu D σ H := s_forT (D := { D with nx := tu D }) hR h main
end
theorem small_ok {x : Str} (h : ∀ c ∈ x.cps.toList, c < 1000) : PyData.canLay0 (.str x) = true := by
  refine' @FB.also _ _ ?_ ?_ ?_; rotate_left
  · intro wit__; simp only [↓FB.viaW wit__ (by
      clear wit__
      have q : PyData.strOk x = true := by
        unfold PyData.strOk
        rw [← Array.all_toList, List.all_eq_true]
        exact fun c hc => decide_eq_true (Nat.lt_trans (h c hc) (by decide))
      simpa only [PyData.canLay0] using q)]
  intro b q h; simpa using FB.pinF b h
  eq_refl
section
variable {z : Zn} {K : PySem.W.Frag} {σ : L2.St} {H : Hp} {te ta tb : TE}
theorem ev_sortSet {xs : List Str} (h : Ev z te σ H (fun v H' => ∃ p, v = .ref p ∧ (SqL K H' p (xs.map V.str) ∨ SqT K H' p (xs.map V.str)))) (h64 : xs.length < 64) :
    Ev z (tSortSet K te) σ H (Lst z fun ws _ => ∃ ks, ws = ks.map V.str ∧ sortedS ks = true ∧ ks.Nodup ∧ (∀ k, k ∈ ks ↔ k ∈ xs) ∧ ks.length ≤ xs.length) := by
  refine' @FB.also _ _ ?_ ?_ ?_; rotate_left
  · intro wit__; simp only [↓FB.viaW wit__ (by
      clear wit__
      exact fun H1 e Q q => h H1 e _ fun v H2 e2 f => by
        obtain ⟨p, rfl, hp⟩ := f H2 .refl
        exact ⟨p, xs, rfl, hp, h64, fun ks p' h1 h2 h3 h4 hn => q _ _ (e2.tr (e2.dr.new hn)) fun H3 w => ⟨p', _, rfl, e2.dr.nu hn, w p' _ (e2.dr.nu hn) upd_same, ks, rfl, h1, h2, h3, h4⟩⟩)]
  intro b q h; simpa using FB.pinF b h
  eq_refl
end
end FB
set_option Elab.async false
set_option linter.all false
set_option maxRecDepth 100000
set_option maxHeartbeats 4000000
namespace FB
open PySem PySem.Spec PyProof.Rows L2
theorem getD_mem {x : Str} {k : Nat} (h : k < x.length) : ∃ h' : k < x.cps.toList.length, x.cps.getD k 0 = x.cps.toList[k]'h' := by
  refine' @FB.also _ _ ?_ ?_ ?_; rotate_left
  · intro wit__; simp only [↓FB.viaW wit__ (by
      clear wit__
      have h' : k < x.cps.toList.length := by simpa [Str.length] using h
      refine ⟨h', ?_⟩
      rw [← getD_list]
      simp [List.getD, List.getElem?_eq_getElem h'])]
  intro b q h; simpa using FB.pinF b h
  eq_refl
/-- what is left of a text stripped of signs is nothing just where all its signs are such -/
theorem strip_len (x y : Str) : decide ((Txt.stripChars x y).length = 0) = x.cps.toList.all (fun c => y.cps.contains c) := by
  refine' @FB.also _ _ ?_ ?_ ?_; rotate_left
  · intro wit__; simp only [↓FB.viaW wit__ (by
      clear wit__
      unfold Txt.stripChars
      rw [PyProof.Rows.stripBy_eq]
      obtain ⟨l1, l2, l3⟩ := lo_facts y.cps.contains x
      obtain ⟨h1, h2, h3, _⟩ := hi_facts y.cps.contains x (stripLo y.cps.contains true x) l1
      rw [size_strSub _ _ _ h2]
      by_cases ha : x.cps.toList.all (fun c => y.cps.contains c) = true
      · rw [ha]
        have e : stripLo y.cps.contains true x = x.length := by
          rcases l3 with h | h
          · exact h
          · by_cases hk : stripLo y.cps.contains true x < x.length
            · obtain ⟨h', e⟩ := getD_mem hk
              rw [e] at h
              have := List.all_eq_true.mp ha _ (List.getElem_mem h')
              rw [this] at h
              cases h
            · omega
        exact decide_eq_true (by omega)
      · have ha' : x.cps.toList.all (fun c => y.cps.contains c) = false := by simpa using ha
        rw [ha']
        refine decide_eq_false fun e => ha (List.all_eq_true.mpr fun c hc => ?_)
        obtain ⟨k, hk, ec⟩ := List.getElem_of_mem hc
        have hk' : k < x.length := by simpa [Str.length] using hk
        obtain ⟨h', e'⟩ := getD_mem hk'
        rw [← ec, ← e']
        by_cases hlo : k < stripLo y.cps.contains true x
        · exact l2 k hlo
        · exact h3 k (by omega) hk')]
  intro b q h; simpa using FB.pinF b h
  eq_refl
theorem az_has (c : Nat) : ("abcdefghijklmnopqrstuvwxyz" : Str).cps.contains c = low c := by
  refine' @FB.also _ _ ?_ ?_ ?_; rotate_left
  · intro wit__; simp only [↓FB.viaW wit__ (by
      clear wit__
      rw [low_in]
      simp [Array.contains_eq_mem])]
  intro b q h; simpa using FB.pinF b h
  eq_refl
theorem strip_az (x : Str) : decide ((Txt.stripChars x "abcdefghijklmnopqrstuvwxyz").length = 0) = x.cps.toList.all low := by
  refine' @FB.also _ _ ?_ ?_ ?_; rotate_left
  · intro wit__; simp only [↓FB.viaW wit__ (by
      clear wit__
      rw [strip_len]
      congr 1
      funext c
      exact az_has c)]
  intro b q h; simpa using FB.pinF b h
  eq_refl
section
variable {z : Zn} {K : PySem.W.Frag} {σ : L2.St} {H : Hp} {to ta te : TE}
theorem ev_strip {x y : Str} (h1 : Ev z to σ H (Is (.str x))) (h2 : Ev z ta σ H (Is (.str y))) (hl : x.length ≤ 100000) :
    Ev z (tBM K "str" (fun x xs H Q => ∃ a b, x = .str a ∧ xs = [.str b] ∧ a.length ≤ sizeLine ∧ Q (.str (Txt.stripChars a b)) H) to (tCons ta tNil)) σ H (Is (.str (Txt.stripChars x y))) := by
  refine' @FB.also _ _ ?_ ?_ ?_; rotate_left
  · intro wit__; simp only [↓FB.viaW wit__ (by
      clear wit__
      exact fun H1 e Q q =>
        h1 H1 e _ fun v H2 e2 f => by
          have ev : v = .str x := f H2 .refl
          subst ev
          refine ⟨rfl, h2 H2 (e.tr e2) _ fun w H3 e3 g => ?_⟩
          have ew : w = .str y := g H3 .refl
          subst ew
          exact ⟨x, y, rfl, rfl, Nat.le_trans hl (by decide), q _ H3 (e2.tr e3) fun _ _ => rfl⟩)]
  intro b q h; simpa using FB.pinF b h
  eq_refl
theorem ev_notS {x : Str} (h : Ev z te σ H (Is (.str x))) (hl : x.length ≤ 100000) : Ev z (tNotT K te) σ H (Is (.bl (decide (x.length = 0)))) := by
  refine' @FB.also _ _ ?_ ?_ ?_; rotate_left
  · intro wit__; simp only [↓FB.viaW wit__ (by
      clear wit__
      exact fun H1 e Q q =>
        h H1 e _ fun v H2 e2 f => by
          have ev : v = .str x := f H2 .refl
          subst ev
          refine ⟨_, ⟨Nat.le_trans hl (by decide), rfl⟩, ?_⟩
          have e3 : (!((x.length : Int) != 0)) = decide (x.length = 0) := by
            by_cases h : x.length = 0
            · rw [h]; rfl
            · rw [decide_eq_false h]
              simp [bne, h]
          rw [e3]
          exact q _ H2 e2 fun _ _ => rfl)]
  intro b q h; simpa using FB.pinF b h
  eq_refl
/-- not x.strip(letters) -/
theorem ev_onlyAz {x : Str} (h1 : Ev z to σ H (Is (.str x))) (h2 : Ev z ta σ H (Is (.str "abcdefghijklmnopqrstuvwxyz"))) (hl : x.length ≤ 100000) :
    Ev z (tNotT K (tBM K "str" (fun x xs H Q => ∃ a b, x = .str a ∧ xs = [.str b] ∧ a.length ≤ sizeLine ∧ Q (.str (Txt.stripChars a b)) H) to (tCons ta tNil))) σ H (Is (.bl (x.cps.toList.all low))) := by
  refine' @FB.also _ _ ?_ ?_ ?_; rotate_left
  · intro wit__; simp only [↓FB.viaW wit__ (by
      clear wit__
      rw [← strip_az]
      exact ev_notS (ev_strip h1 h2 hl) (Nat.le_trans (len_stripChars _ _) hl))]
  intro b q h; simpa using FB.pinF b h
  eq_refl
/-- a text as a test -/
theorem et_txt {x : Str} (h : Ev z te σ H (Is (.str x))) (hl : x.length ≤ 100000) : EvT z (fun σ H Q => te σ H fun x H' => ∃ k, TruV K x H' k ∧ Q k H') σ H (· = !decide (x.length = 0)) := by
  refine' @FB.also _ _ ?_ ?_ ?_; rotate_left
  · intro wit__; simp only [↓FB.viaW wit__ (by
      clear wit__
      exact fun H1 e Q q =>
        h H1 e _ fun v H2 e2 f => by
          have ev : v = .str x := f H2 .refl
          subst ev
          refine ⟨_, ⟨Nat.le_trans hl (by decide), rfl⟩, ?_⟩
          have e3 : ((x.length : Int) != 0) = !decide (x.length = 0) := by
            by_cases h : x.length = 0
            · rw [h]; rfl
            · rw [decide_eq_false h]
              simp [bne, h]
          rw [e3]
          exact q _ H2 e2 rfl)]
  intro b q h; simpa using FB.pinF b h
  eq_refl
end
end FB
set_option Elab.async false
set_option linter.all false
set_option maxRecDepth 100000
set_option maxHeartbeats 4000000
namespace FB
open PySem PySem.Spec PyProof.Rows L2 RZ
/-- USERS, looked through from a text on -/
def goU : Str → List PyData → Bool
  | _, [] => true
  | y, d :: r => (isStrD d && (ltS y (sD d) && decide ((sD d).length ≤ 8))) && goU (sD d) r
def lowAll (ds : List PyData) : Bool := ds.all fun d => (sD d).cps.toList.all low
theorem lt_pos {y x : Str} (h : ltS y x = true) : 1 ≤ x.length := by
  refine' @FB.also _ _ ?_ ?_ ?_; rotate_left
  · intro wit__; simp only [↓FB.viaW wit__ (by
      clear wit__
      have h' := of_decide_eq_true h
      have hl : x.cps.toList.length = x.length := by simp [Str.length]
      cases e : x.cps.toList with
      | nil => rw [e] at h'; exact absurd h' (List.not_lt_nil _)
      | cons c r => rw [e, List.length_cons] at hl; omega)]
  intro b q h; simpa using FB.pinF b h
  eq_refl
theorem empty_lt {x : Str} (h : 1 ≤ x.length) : ltS "" x = true := by
  refine' @FB.also _ _ ?_ ?_ ?_; rotate_left
  · intro wit__; simp only [↓FB.viaW wit__ (by
      clear wit__
      have hl : x.cps.toList.length = x.length := by simp [Str.length]
      refine decide_eq_true ?_
      show ([] : List Nat) < x.cps.toList
      cases e : x.cps.toList with
      | nil => rw [e, List.length_nil] at hl; omega
      | cons c r => exact List.nil_lt_cons c r)]
  intro b q h; simpa using FB.pinF b h
  eq_refl
theorem goU_eq : ∀ (ds : List PyData) (y : Str), (goU y ds && lowAll ds) = (ds.all isWordD && grS (y :: ds.map sD))
  | [], y => rfl
  | d :: r, y => by
    have ih := goU_eq r (sD d)
    show (((isStrD d && (ltS y (sD d) && decide ((sD d).length ≤ 8))) && goU (sD d) r) && ((sD d).cps.toList.all low && lowAll r)) = ((isWordD d && r.all isWordD) && (ltS y (sD d) && grS (sD d :: r.map sD)))
    cases d with
    | str x =>
      show (((true && (ltS y x && decide (x.length ≤ 8))) && goU x r) && (x.cps.toList.all low && lowAll r)) = ((isW x && r.all isWordD) && (ltS y x && grS (x :: r.map sD)))
      have ih' : (goU x r && lowAll r) = (r.all isWordD && grS (x :: r.map sD)) := ih
      cases hl : ltS y x with
      | false => simp
      | true =>
        have h1 := lt_pos hl
        unfold isW
        rw [decide_eq_true h1]
        revert ih'
        cases decide (x.length ≤ 8) <;> cases x.cps.toList.all low <;> cases goU x r <;> cases lowAll r <;> cases r.all isWordD <;> cases grS (x :: r.map sD) <;> simp
    | _ => simp [isStrD, isWordD]
theorem isU_go (ds : List PyData) : isUsersD (.tuple ds) = (goU "" ds && lowAll ds) := by
  refine' @FB.also _ _ ?_ ?_ ?_; rotate_left
  · intro wit__; simp only [↓FB.viaW wit__ (by
      clear wit__
      rw [goU_eq]
      show (ds.all isWordD && grS (ds.map sD)) = _
      cases ds with
      | nil => rfl
      | cons d r =>
        cases hw : isWordD d with
        | false => simp [hw]
        | true =>
          cases d with
          | str x =>
            have h1 : 1 ≤ x.length := by
              have : isW x = true := hw
              unfold isW at this
              rw [Bool.and_eq_true, Bool.and_eq_true] at this
              exact of_decide_eq_true this.1.1
            show (_ && grS (x :: r.map sD)) = (_ && (ltS "" x && grS (x :: r.map sD)))
            rw [empty_lt h1, Bool.true_and]
          | _ => cases hw)]
  intro b q h; simpa using FB.pinF b h
  eq_refl
theorem goU_strs : ∀ (ds : List PyData) (y : Str), goU y ds = true → ∀ d ∈ ds, isStrD d = true ∧ (sD d).length ≤ 8
  | [], _, _, d, h => by cases h
  | e :: r, y, g, d, h => by
    have g' : ((isStrD e && (ltS y (sD e) && decide ((sD e).length ≤ 8))) && goU (sD e) r) = true := g
    rw [Bool.and_eq_true, Bool.and_eq_true, Bool.and_eq_true] at g'
    rcases List.mem_cons.mp h with rfl | h
    · exact ⟨g'.1.1, of_decide_eq_true g'.1.2.2⟩
    · exact goU_strs r _ g'.2 d h
theorem strs_at {U : Addr → Prop} {H : Hp} : ∀ {vs : List V} {ds : List PyData}, DUA U H vs ds → (∀ d ∈ ds, isStrD d = true) → vs = (ds.map sD).map V.str
  | _, _, .nil, _ => rfl
  | _, _, .cons (d := d) h t, hw => by
    have a := strs_at t fun e he => hw e (List.mem_cons_of_mem _ he)
    have hd := hw d List.mem_cons_self
    cases d with
    | str x =>
      cases h
      rw [a]
      simp [sD]
    | _ => cases hd
/-- GROUPS, looked through from a name on -/
def goG : Str → List PyData → Bool
  | _, [] => true
  | y, d :: r => (isGroupD d && ltS y (nameD d)) && goG (nameD d) r
theorem goG_eq : ∀ (ds : List PyData) (y : Str), goG y ds = (ds.all isGroupD && grS (y :: ds.map nameD))
  | [], _ => rfl
  | d :: r, y => by
    have ih := goG_eq r (nameD d)
    show ((isGroupD d && ltS y (nameD d)) && goG (nameD d) r) = ((isGroupD d && r.all isGroupD) && (ltS y (nameD d) && grS (nameD d :: r.map nameD)))
    rw [ih]
    cases isGroupD d <;> cases ltS y (nameD d) <;> simp
theorem group_pos {d : PyData} (h : isGroupD d = true) : 1 ≤ (nameD d).length := by
  refine' @FB.also _ _ ?_ ?_ ?_; rotate_left
  · intro wit__; simp only [↓FB.viaW wit__ (by
      clear wit__
      cases d with
      | tuple ds =>
        have h' : (decide (ds.length = 2) && (isWordD (ds.getD 0 .none) && isUsersD (ds.getD 1 .none))) = true := h
        rw [Bool.and_eq_true, Bool.and_eq_true] at h'
        show 1 ≤ (sD (ds.getD 0 .none)).length
        generalize ds.getD 0 .none = e at h' ⊢
        cases e with
        | str x =>
          have : isW x = true := h'.2.1
          unfold isW at this
          rw [Bool.and_eq_true, Bool.and_eq_true] at this
          exact of_decide_eq_true this.1.1
        | _ => cases h'.2.1
      | _ => cases h)]
  intro b q h; simpa using FB.pinF b h
  eq_refl
theorem isG_go (ds : List PyData) : isGroupsD (.tuple ds) = (decide (ds.length ≤ 8) && goG "" ds) := by
  refine' @FB.also _ _ ?_ ?_ ?_; rotate_left
  · intro wit__; simp only [↓FB.viaW wit__ (by
      clear wit__
      rw [goG_eq]
      show (_ && (ds.all isGroupD && grS (ds.map nameD))) = _
      cases ds with
      | nil => rfl
      | cons d r =>
        cases hw : isGroupD d with
        | false => simp [hw]
        | true =>
          show (_ && (_ && grS (nameD d :: r.map nameD))) = (_ && (_ && (ltS "" (nameD d) && grS (nameD d :: r.map nameD))))
          rw [empty_lt (group_pos hw), Bool.true_and])]
  intro b q h; simpa using FB.pinF b h
  eq_refl
theorem drop_at {α : Type} {l : List α} {i : Nat} {x : α} (h : l[i]? = some x) : l.drop i = x :: l.drop (i + 1) := by
  refine' @FB.also _ _ ?_ ?_ ?_; rotate_left
  · intro wit__; simp only [↓FB.viaW wit__ (by
      clear wit__
      obtain ⟨hi, e⟩ := List.getElem?_eq_some_iff.mp h
      rw [List.drop_eq_getElem_cons hi, e])]
  intro b q h; simpa using FB.pinF b h
  eq_refl
section
variable {z : Zn} {K : PySem.W.Frag} {σ : L2.St} {H : Hp} {ts tl te : TE}
/-- s.join(a tuple of texts) -/
theorem ev_joinT {s : Str} {ys : List Str} (h1 : Ev z ts σ H (Is (.str s))) (h2 : Ev z tl σ H (Tup z fun ws _ => ws = ys.map V.str)) (hz : (ys.map (·.length)).sum + ys.length * s.length ≤ 16777216) :
    Ev z (tM1 (fun x xs H Q => ∃ a p, ∃ ys : List Str, x = .str a ∧ xs = [.ref p] ∧ (SqL K H p (ys.map V.str) ∨ SqT K H p (ys.map V.str)) ∧ (ys.map (·.length)).sum + ys.length * a.length ≤ 16777216 ∧ Q (.str (Txt.join a ys)) H) ts tl) σ H
      (Is (.str (Txt.join s ys))) := by
  refine' @FB.also _ _ ?_ ?_ ?_; rotate_left
  · intro wit__; simp only [↓FB.viaW wit__ (by
      clear wit__
      exact fun H1 e Q q =>
        h1 H1 e _ fun v H2 e2 f => ⟨⟨s, f H2 .refl⟩, h2 H2 (e.tr e2) _ fun y H3 e3 g => by
          obtain ⟨p, ws, ev, nu, hp, ew⟩ := g H3 .refl
          exact ⟨s, p, ys, f H3 e3.w, by rw [ev], .inr (.inl (.inl (by rw [hp, ew]))), hz, q _ H3 (e2.tr e3) fun _ _ => rfl⟩⟩)]
  intro b q h; simpa using FB.pinF b h
  eq_refl
theorem sum_le8 : ∀ (ys : List Str), (∀ y ∈ ys, y.length ≤ 8) → (ys.map (·.length)).sum ≤ 8 * ys.length
  | [], _ => Nat.le_refl _
  | y :: r, h => by
    have := sum_le8 r fun x hx => h x (List.mem_cons_of_mem _ hx)
    have := h y List.mem_cons_self
    simp only [List.map_cons, List.sum_cons, List.length_cons]
    omega
theorem join_len8 {ys : List Str} (h : ∀ y ∈ ys, y.length ≤ 8) : (Txt.join "" ys).length ≤ 8 * ys.length := by
  refine' @FB.also _ _ ?_ ?_ ?_; rotate_left
  · intro wit__; simp only [↓FB.viaW wit__ (by
      clear wit__
      rw [TL.join_eq]
      have h1 := StrLaws.join_length_le "" ys
      have h2 := sum_le8 ys h
      have h3 : ("" : Str).length = 0 := rfl
      rw [h3, Nat.mul_zero] at h1
      omega)]
  intro b q h; simpa using FB.pinF b h
  eq_refl
theorem join_low (ys : List Str) : (Txt.join "" ys).cps.toList.all low = ys.all fun y => y.cps.toList.all low := by
  rw [TL.join_eq, Bool.eq_iff_iff, List.all_eq_true, List.all_eq_true]
  constructor
  · intro h y hy
    exact List.all_eq_true.mpr fun c hc => h c ((PyProof.Rows.mem_join _ _ _).mpr (.inl ⟨y, hy, hc⟩))
  · intro h c hc
    rcases (PyProof.Rows.mem_join _ _ _).mp hc with ⟨t, ht, hc⟩ | ⟨_, hc⟩
    · exact List.all_eq_true.mp (h t ht) c hc
    · cases hc
/-- x, y = a pair that stands -/
theorem q_un2 {tu : TS} {D : Ends} {i j : Nat} {a : Addr} {v w : V} (hR : z.R H H) (nu : ¬ z.U a) (ha : H a = some (.tup [v, w])) (h : Ev z te σ H (Is (.ref a))) (k : ∀ H1, z.R H H1 → tu D ((σ.set i (some v)).set j (some w)) H1) :
    tSeq (tAsg te (gTup K 2 (gCons (gName i) (gCons (gName j) gNil)))) tu D σ H := by
  refine' @FB.also _ _ ?_ ?_ ?_; rotate_left
  · intro wit__; simp only [↓FB.viaW wit__ (by
      clear wit__
      exact h H hR _ fun x H1 e f => by
        have ex : x = .ref a := f H1 .refl
        subst ex
        exact ⟨a, [v, w], rfl, .inl (.inl (e.w a _ nu ha)), rfl, v, [w], rfl, w, [], rfl, rfl, k H1 e⟩)]
  intro b q h; simpa using FB.pinF b h
  eq_refl
/-- x, y, w = a tuple of three that stands -/
theorem q_un3 {tu : TS} {D : Ends} {i j l : Nat} {a : Addr} {v w x : V} (hR : z.R H H) (nu : ¬ z.U a) (ha : H a = some (.tup [v, w, x])) (h : Ev z te σ H (Is (.ref a))) (k : ∀ H1, z.R H H1 → tu D (((σ.set i (some v)).set j (some w)).set l (some x)) H1) :
    tSeq (tAsg te (gTup K 3 (gCons (gName i) (gCons (gName j) (gCons (gName l) gNil))))) tu D σ H := by
  refine' @FB.also _ _ ?_ ?_ ?_; rotate_left
  · intro wit__; simp only [↓FB.viaW wit__ (by
      clear wit__
      exact h H hR _ fun y H1 e f => by
        have ey : y = .ref a := f H1 .refl
        subst ey
        exact ⟨a, [v, w, x], rfl, .inl (.inl (e.w a _ nu ha)), rfl, v, [w, x], rfl, w, [x], rfl, x, [], rfl, rfl, k H1 e⟩)]
  intro b q h; simpa using FB.pinF b h
  eq_refl
end
end FB
set_option Elab.async false
set_option linter.all false
set_option maxRecDepth 100000
set_option maxHeartbeats 4000000
namespace FB
open PySem PySem.Spec PyProof.Rows L2 RZ
def Mx (d : PyData) : Prop := d.hasDict = false ∨ hasL d = false
structure Dn (k m : Nat) (d : PyData) : Prop where
  lf : Lf k m d
  bd : Bd 3 d
def PlD (k m : Nat) (d : PyData) : Prop := Dn k m d ∧ Pl d
def MxD (k m : Nat) (d : PyData) : Prop := Dn k m d ∧ Mx d
def PlL (n k m : Nat) (ds : List PyData) : Prop := ds.length ≤ n ∧ ∀ d ∈ ds, PlD k m d
def MxL (n k m : Nat) (ds : List PyData) : Prop := ds.length ≤ n ∧ ∃ o, MxD k m o ∧ ∀ d ∈ ds, PlD k m d ∨ d = o
theorem Dn.mono {k k' m m' : Nat} {d : PyData} (h : Dn k m d) (h1 : k ≤ k') (h2 : m ≤ m') : Dn k' m' d := ⟨h.lf.mono h1 h2, h.bd⟩
theorem PlD.mono {k k' m m' : Nat} {d : PyData} (h : PlD k m d) (h1 : k ≤ k') (h2 : m ≤ m') : PlD k' m' d := ⟨h.1.mono h1 h2, h.2⟩
theorem MxD.mono {k k' m m' : Nat} {d : PyData} (h : MxD k m d) (h1 : k ≤ k') (h2 : m ≤ m') : MxD k' m' d := ⟨h.1.mono h1 h2, h.2⟩
theorem PlL.mono {n n' k k' m m' : Nat} {ds : List PyData} (h : PlL n k m ds) (h0 : n ≤ n') (h1 : k ≤ k') (h2 : m ≤ m') : PlL n' k' m' ds := ⟨Nat.le_trans h.1 h0, fun d hd => (h.2 d hd).mono h1 h2⟩
theorem sl_of {d : PyData} (h : ∀ x, d ≠ .str x) : Sl d := fun x e => absurd e (h x)
theorem MxL.mono {n n' k k' m m' : Nat} {ds : List PyData} (h : MxL n k m ds) (h0 : n ≤ n') (h1 : k ≤ k') (h2 : m ≤ m') : MxL n' k' m' ds :=
  let ⟨a, o, b, c⟩ := h; ⟨Nat.le_trans a h0, o, b.mono h1 h2, fun d hd => (c d hd).imp (fun p => p.mono h1 h2) id⟩
theorem PlL.app {n n' k m : Nat} {a b : List PyData} (h : PlL n k m a) (h' : PlL n' k m b) : PlL (n + n') k m (a ++ b) :=
  ⟨by rw [List.length_append]; have := h.1; have := h'.1; omega, fun d hd => (List.mem_append.mp hd).elim (h.2 d) (h'.2 d)⟩
theorem PlL.sub {n k m : Nat} {ds es : List PyData} (h : PlL n k m ds) (hl : es.length ≤ ds.length) (hm : ∀ e ∈ es, e ∈ ds) : PlL n k m es := ⟨Nat.le_trans hl h.1, fun d hd => h.2 d (hm d hd)⟩
theorem MxL.one {k m : Nat} {d : PyData} (h : MxD k m d) : MxL 1 k m [d] := ⟨Nat.le_refl _, d, h, fun e he => .inr (List.mem_singleton.mp he)⟩
theorem PlL.nil {n k m : Nat} : PlL n k m [] := ⟨Nat.zero_le _, fun _ h => by cases h⟩
theorem PlL.cons {n k m : Nat} {d : PyData} {ds : List PyData} (h : PlD k m d) (t : PlL n k m ds) : PlL (n + 1) k m (d :: ds) :=
  ⟨Nat.succ_le_succ t.1, fun e he => (List.mem_cons.mp he).elim (fun q => q ▸ h) (t.2 e)⟩
theorem MxL.lf {n k m : Nat} {ds : List PyData} (h : MxL n k m ds) : ∀ d ∈ ds, Dn k m d := fun d hd => let ⟨_, o, ho, hh⟩ := h; (hh d hd).elim (fun p => p.1) fun q => q ▸ ho.1
theorem MxL.tup {n k m : Nat} {ds : List PyData} (h : MxL n k m ds) (hn : n ≤ 60) : MxD (k + 1) (n * (m + 1)) (.tuple ds) := by
  refine' @FB.also _ _ ?_ ?_ ?_; rotate_left
  · intro wit__; simp only [↓FB.viaW wit__ (by
      clear wit__
      have hd := h.lf
      obtain ⟨hl, o, ho, hh⟩ := h
      exact ⟨⟨Lf.tup (fun d q => (hd d q).lf) hl, Bd.tup (fun d q => (hd d q).bd) (Nat.le_trans hl hn)⟩, mx_tup ho.2 fun d q => (hh d q).imp (fun p => p.2) id⟩)]
  intro b q h; simpa using FB.pinF b h
  eq_refl
theorem PlL.tup {n k m : Nat} {ds : List PyData} (h : PlL n k m ds) (hn : n ≤ 60) : PlD (k + 1) (n * (m + 1)) (.tuple ds) := by
  refine' @FB.also _ _ ?_ ?_ ?_; rotate_left
  · intro wit__; simp only [↓FB.viaW wit__ (by
      clear wit__
      exact ⟨⟨Lf.tup (fun d q => (h.2 d q).1.lf) h.1, Bd.tup (fun d q => (h.2 d q).1.bd) (Nat.le_trans h.1 hn)⟩, Pl.tup fun d q => (h.2 d q).2⟩)]
  intro b q h; simpa using FB.pinF b h
  eq_refl
theorem PlL.lst {n k m : Nat} {ds : List PyData} (h : PlL n k m ds) : MxD (k + 1) (n * (m + 1)) (.list ds) := by
  refine' @FB.also _ _ ?_ ?_ ?_; rotate_left
  · intro wit__; simp only [↓FB.viaW wit__ (by
      clear wit__
      exact ⟨⟨Lf.lst (fun d q => (h.2 d q).1.lf) h.1, Bd.of (sl_of fun x e => by cases e) fun ds e => by cases e⟩, .inl (by simp only [PyData.hasDict]; exact nd_all fun d q => (h.2 d q).2.nd)⟩)]
  intro b q h; simpa using FB.pinF b h
  eq_refl
theorem txs_pl {n : Nat} {x : Str} (h : Txs n x) (hn : n ≤ 1000) : PlD 0 n (.str x) := ⟨⟨h.lf, Bd.of (fun y e => by cases e; exact Nat.le_trans h.1 hn) fun ds e => by cases e⟩, Pl.str⟩
theorem strs_pl {n m : Nat} {xs : List Str} (h : ∀ x ∈ xs, Txs m x) (hl : xs.length ≤ n) (hm : m ≤ 1000) : PlL n 0 m (xs.map PyData.str) := by
  refine' @FB.also _ _ ?_ ?_ ?_; rotate_left
  · intro wit__; simp only [↓FB.viaW wit__ (by
      clear wit__
      exact ⟨by rw [List.length_map]; exact hl, fun d hd => by
          obtain ⟨x, hx, rfl⟩ := List.mem_map.mp hd
          exact txs_pl (h x hx) hm⟩)]
  intro b q h; simpa using FB.pinF b h
  eq_refl
section
variable {U : Addr → Prop} {H : Hp} {K : PySem.W.Frag}
mutual
theorem DU.dp : ∀ {v : V} {d : PyData}, DU U H v d → d.hasDict = false → Dp K H v d
  | _, _, .non, _ => .non
  | _, _, .bl b, _ => .bl b
  | _, _, .int i, _ => .int i
  | _, _, .str x, _ => .str x
  | _, _, .lst _ e t, h => .lst (.inl (.inl e)) (DUA.dp t (by simpa only [PyData.hasDict] using h))
  | _, _, .tup _ e t, h => .tup (.inl (.inl e)) (DUA.dp t (by simpa only [PyData.hasDict] using h))
  | _, _, .dct _ _ _, h => by simp only [PyData.hasDict] at h; cases h
theorem DUA.dp : ∀ {vs : List V} {ds : List PyData}, DUA U H vs ds → PyData.hasDictAll ds = false → DpAll K H vs ds
  | _, _, .nil, _ => .nil
  | _, _, .cons h t, q => by
    simp only [PyData.hasDictAll, Bool.or_eq_false_iff] at q
    exact .cons (DU.dp h q.1) (DUA.dp t q.2)
end
end
/-- a list of at most n texts of at most m signs -/
def TL (n m : Nat) : List V → Hp → Prop := fun ws _ => ∃ xs : List Str, ws = xs.map V.str ∧ xs.length ≤ n ∧ ∀ x ∈ xs, Txs m x
section
variable {z : Zn} {K : PySem.W.Frag} {σ : L2.St} {H : Hp} {te tb ta : TE} {tl th : TO} {lo hi : Option Int}
theorem DUA.cut {U : Addr → Prop} {vs : List V} {ds : List PyData} (h : DUA U H vs ds) (lo hi : Option Int) : ∃ es, DUA U H (cutV vs lo hi) es ∧ es.length ≤ ds.length ∧ ∀ e ∈ es, e ∈ ds := by
  refine' @FB.also _ _ ?_ ?_ ?_; rotate_left
  · intro wit__; simp only [↓FB.viaW wit__ (by
      clear wit__
      unfold cutV
      refine ⟨_, (h.drop _).take _, ?_, fun e he => List.mem_of_mem_drop (List.mem_of_mem_take he)⟩
      rw [List.length_take, List.length_drop]
      omega)]
  intro b q h; simpa using FB.pinF b h
  eq_refl
theorem Ds.imp {P P' : PyData → Prop} (h : Ev z te σ H (Ds z P)) (i : ∀ d, P d → P' d) : Ev z te σ H (Ds z P') := Ev.imp h fun v H' _ ⟨d, hd, hv⟩ => ⟨d, i d hd, hv⟩
end
section
variable {z : Zn} {K : PySem.W.Frag} {σ : L2.St} {H : Hp} {te tx : TE} {E : XK}
/-- found.append(x) -/
theorem s_app {D : Ends} {to : TE} {p : Addr} {xs : List V} {φ : VP} (hR : z.R H H) (ho : Ev z to σ H (Is (.ref p))) (h : ∀ H1, z.R H H1 → Ev z te σ H1 φ) (ni : z.I p = none) (hp : H p = some (.lst xs)) (hl : xs.length ≤ 100000)
    (k : ∀ v H1, z.R H H1 → (∀ H2, z.W H1 H2 → φ v H2) → D.nx σ (upd H1 p (.lst (xs ++ [v])))) : tDrop (tBM K "list" rAppend to (tCons te tNil)) D σ H := by
  refine' @FB.also _ _ ?_ ?_ ?_; rotate_left
  · intro wit__; simp only [↓FB.viaW wit__ (by
      clear wit__
      refine ho H hR _ fun v1 H1 r1 f1 => ?_
      have e1 : v1 = .ref p := f1 H1 .refl
      subst e1
      have h1 : H1 p = some (.lst xs) := r1.kp p _ ni hp
      refine ⟨.inl ⟨rfl, xs, .inl (.inl h1)⟩, ?_⟩
      refine h H1 r1 H1 r1.dr _ fun v H2 r2 f2 => ?_
      have h2 : H2 p = some (.lst xs) := r2.kp p _ ni h1
      exact ⟨p, xs, v, rfl, rfl, h2, Nat.lt_of_le_of_lt hl (by decide), k v H2 (r1.tr r2) f2⟩)]
  intro b q h; simpa using FB.pinF b h
  eq_refl
end
section
variable {z : Zn} {K : PySem.W.Frag} {σ : L2.St} {H : Hp} {te tb ta : TE}
/-- one group with its users -/
def Grp (e : PyData) : Prop := ∃ (x : Str) (us : List Str), e = .tuple [.str x, .tuple (us.map PyData.str)] ∧ Txs 8 x ∧ us.length ≤ 4 ∧ ∀ u ∈ us, Txs 8 u
def Folk (ds : List PyData) : Prop := ds.length ≤ 9 ∧ ∀ e ∈ ds, Grp e
theorem Grp.pl {e : PyData} (h : Grp e) : PlD 2 74 e := by
  refine' @FB.also _ _ ?_ ?_ ?_; rotate_left
  · intro wit__; simp only [↓FB.viaW wit__ (by
      clear wit__
      obtain ⟨x, us, rfl, hx, hl, hu⟩ := h
      exact (PlL.tup (n := 2) (k := 1) (m := 36) (PlL.cons ((txs_pl hx (by decide)).mono (by decide) (by decide)) (PlL.cons (n := 0) (PlL.tup (strs_pl hu hl (by decide)) (by decide)) PlL.nil)) (by decide)).mono (by decide) (by decide))]
  intro b q h; simpa using FB.pinF b h
  eq_refl
theorem Folk.pl {ds : List PyData} (h : Folk ds) : PlL 9 2 74 ds := ⟨h.1, fun d hd => (h.2 d hd).pl⟩
theorem strs_lay : ∀ {us : List Str}, (∀ u ∈ us, Txs 8 u) → PyData.canLayAll0 (us.map PyData.str) = true
  | [], _ => rfl
  | u :: r, h => by
    simp only [List.map_cons, PyData.canLayAll0, small_ok (h u List.mem_cons_self).2, strs_lay fun x hx => h x (List.mem_cons_of_mem _ hx), Bool.and_self]
theorem Grp.lay {e : PyData} (h : Grp e) : e.canLay0 = true := by
  refine' @FB.also _ _ ?_ ?_ ?_; rotate_left
  · intro wit__; simp only [↓FB.viaW wit__ (by
      clear wit__
      obtain ⟨x, us, rfl, hx, hl, hu⟩ := h
      simp only [PyData.canLay0, PyData.canLayAll0, strs_lay hu, Bool.and_true]
      simpa only [PyData.canLay0] using small_ok hx.2)]
  intro b q h; simpa using FB.pinF b h
  eq_refl
theorem grps_lay : ∀ {ds : List PyData}, (∀ e ∈ ds, Grp e) → PyData.canLayAll0 ds = true
  | [], _ => rfl
  | d :: r, h => by
    simp only [PyData.canLayAll0, (h d List.mem_cons_self).lay, grps_lay fun x hx => h x (List.mem_cons_of_mem _ hx), Bool.and_self]
theorem Folk.shaped {ds : List PyData} (h : Folk ds) : SeqAt.shaped (.tuple ds) = true := by
  refine' @FB.also _ _ ?_ ?_ ?_; rotate_left
  · intro wit__; simp only [↓FB.viaW wit__ (by
      clear wit__
      unfold SeqAt.shaped
      rw [Bool.and_eq_true]
      refine ⟨by simp only [PyData.canLay0]; exact grps_lay h.2, decide_eq_true ?_⟩
      have := (PlL.tup h.pl (by decide)).1.lf.dp
      omega)]
  intro b q h; simpa using FB.pinF b h
  eq_refl
end
section
variable {z : Zn} {K : PySem.W.Frag} {σ : L2.St} {H : Hp} {ta tk : TE} {D : Ends} {tu : TS}
/-- a new purse, held by a name -/
theorem q_purse {a : Addr} {ns : List Int} {k i : Nat} {E : XK} (hz : z.R H H) (h1 : Ev z ta σ H (Is (.ref a))) (h2 : Ev z tk σ H (Is (.int (k : Int)))) (hS : ∀ H1, z.R H H1 → SqL K H1 a (ns.map V.int)) (hl : ns.length ≤ 1000) (hk : k ≤ 1000)
    (kk : ∀ p o H1 H2, z.R H H1 → z.R H1 H2 → H1 p = none → ¬ z.U p → H2 p = some o → IsPur o → tu D (σ.set i (some (.ref p))) H2) : tSeq (tAsg (tCall (spPurse K) [] E (tCons ta (tCons tk tNil))) (gName i)) tu D σ H := by
  refine' @FB.also _ _ ?_ ?_ ?_; rotate_left
  · intro wit__; simp only [↓FB.viaW wit__ (by
      clear wit__
      show tCons ta (tCons tk tNil) σ H fun vs H1 => spPurse K (vs ++ []) H1 (fun v H2 => tu D (σ.set i (some v)) H2) E
      exact (ea_is h1 (ea_is h2 ea_nil)) H hz _ fun vs H1 e f => ⟨z, a, ns, k, by rw [f H1 .refl]; rfl, e.dr, hS H1 e, hl, hk, fun p o H2 r2 hp hnu hpo hpur => kk p o H1 H2 e r2 hp hnu hpo hpur⟩)]
  intro b q h; simpa using FB.pinF b h
  eq_refl
end
end FB
set_option Elab.async false
set_option linter.all false
set_option maxRecDepth 100000
set_option maxHeartbeats 4000000
namespace FB
open PySem PySem.W PySem.Calls PyProof.Rows PySem.HandSPX
end FB
namespace FB
open PySem PySem.Spec PyProof.Rows L2
end FB
set_option Elab.async false
set_option linter.all false
set_option maxRecDepth 100000
set_option maxHeartbeats 4000000
namespace FB
open PySem PySem.Spec PyProof.Rows L2
end FB
set_option Elab.async false
set_option linter.all false
set_option maxRecDepth 100000
set_option maxHeartbeats 4000000
namespace FB
open PySem PySem.Spec PyProof.Rows L2 L2H HotX
end FB
set_option Elab.async false
set_option linter.all false
set_option maxRecDepth 100000
set_option maxHeartbeats 4000000
namespace FB
open PySem PySem.W PySem.Calls PyProof.Rows PySem.HandSPX
end FB
set_option Elab.async false
set_option linter.all false
set_option maxRecDepth 100000
set_option maxHeartbeats 4000000
namespace FB
open PySem PySem.Spec PyProof.Rows L2
section
variable {z : Zn} {K : PySem.W.Frag} {σ : L2.St} {H : Hp} {te : TE} {D : Ends}
theorem ev_any {bs : List Bool} (h : Ev z te σ H (Lst z fun ws _ => ws = bs.map V.bl)) : Ev z (tCB (rAny K) (tCons te tNil)) σ H (Is (.bl (bs.any id))) := by
  refine' @FB.also _ _ ?_ ?_ ?_; rotate_left
  · intro wit__; simp only [↓FB.viaW wit__ (by
      clear wit__
      exact fun H1 e Q q =>
        h H1 e _ fun v H2 e2 f => by
          obtain ⟨p, ws, ev, nu, hp, ew⟩ := f H2 .refl
          exact ⟨p, bs, by rw [ev], .inl (.inl (by rw [hp, ew])), q _ H2 e2 fun _ _ => rfl⟩)]
  intro b q h; simpa using FB.pinF b h
  eq_refl
end
/-- a def with names behind the *, where it stands -/
structure Dk (K : PySem.W.Frag) (mg : Str → Option Value) (x : Str) (st : Stmt) where
  f : Addr
  fd : FuncData
  F : Fun K x x st f fd
  g : mg x = some (.ref f)
theorem Dk.kb {K : PySem.W.Frag} {mg : Str → Option Value} {x : Str} {st : Stmt} (d : Dk K mg x st) {ps ks : List Str} {n : Nat} {g : List Value → List Value → List Value} {gV : List V → List V → List V}
    (h : ∀ (kV doc pm : Value) (an : Option Addr) (cdv ct : Value) (us ws : List Value), us.length = n → ws.length = ks.length → bindArgs (PySem.W.fnOf x x (defArgs st) (defBody st) (defScope st) .none kV doc pm an cdv ct) ⟨us, ks.zip ws⟩ = pure (ps.zip (g us ws)))
    (hr : ∀ {vs zs : List V} {us ws : List Value}, Vals vs us → Vals zs ws → Vals (gV vs zs) (g us ws)) : KBn K d.fd ps n ks g gV := by
  obtain ⟨oc, od, kV, doc, pm, an, cdv, ct, osl, hfd, lk, hcd⟩ := d.F.ex
  refine ⟨fun s us ws _ h1 h2 => ?_, fun r r2 => hr r r2⟩
  rw [hfd]
  exact .of_eq (h kV doc pm an cdv ct us ws h1 h2)
end FB
set_option Elab.async false
set_option linter.all false
set_option maxRecDepth 100000
set_option maxHeartbeats 4000000
namespace FB
open PySem PySem.Spec PyProof.Rows L2 RZ
/-- a statement that nothing reaches -/
theorem ps_dead {X : Cx} {st : Stmt} : PS X st (fun _ _ _ => False) := ⟨fun _ _ _ _ _ _ h => h.elim⟩
section
variable {z : Zn} {K : PySem.W.Frag} {σ : L2.St} {H : Hp} {te ta tb : TE} {D : Ends} {ts tu : TS}
theorem ev_lcG {wi : TI} {g : TG} {P : Nat → Prop} {vs : List Nat} {it : Nat → V → Prop} {φ : Nat → VP} (hs : EvI z wi σ H P it) (hn : ∀ n, P n → n ≤ 100000)
    (hb : ∀ n i x D H1, P n → i < n → it i x → H D = none → z.R H H1 → (z.add D).R H1 H1 → ∃ σ2, (∀ k : L2.St → Hp → Prop, k σ2 H1 → g x (wipe σ vs) H1 k) ∧ wipe σ2 vs = wipe σ vs ∧ Ev (z.add D) te σ2 H1 (φ i)) :
    Ev z (tLc wi g tYes te vs) σ H (Lst z fun ws H' => P ws.length ∧ ∀ i w, ws[i]? = some w → φ i w H') := by
  refine' @FB.also _ _ ?_ ?_ ?_; rotate_left
  · intro wit__; simp only [↓FB.viaW wit__ (by
      clear wit__
      exact fun H1 e Q q => by
        refine hs H1 e _ fun J H2 n hP e2 S D hD => ?_
        have hn2 := hn n hP
        have hD0 : H D = none := (e.tr e2).back hD
        have nU : ¬ z.U D := e2.dr.nu hD
        have nI : z.I D = none := e2.dr.ni hD
        refine ⟨fun i m H' => i + m = n ∧ z.R H2 H' ∧ ∃ acc : List V, H' D = some (.lst acc) ∧ acc.length = i ∧ ∀ k w, acc[k]? = some w → ∀ H3, (z.add D).W H' H3 → φ k w H3,
          ⟨n, by omega, e2.dr.new hD, [], upd_same, rfl, fun k w h => by simp at h⟩, fun i m H' hW => ?_⟩
        obtain ⟨em, r, acc, hacc, hl, hφ⟩ := hW
        have w2 : z.W H2 H' := r.w
        by_cases hi : i < n
        · right
          refine ⟨S.go i H' w2 hi, fun H'' => z.R H2 H'' ∧ ∃ acc : List V, H'' D = some (.lst acc) ∧ acc.length = i + 1 ∧ ∀ k w, acc[k]? = some w → ∀ H3, (z.add D).W H'' H3 → φ k w H3,
            fun H'' h => ⟨m - 1, by omega, by omega, h⟩, fun x H'' hy => ?_⟩
          obtain ⟨rfl, hx⟩ := S.yld i H' x H'' w2 hi hy
          have rD : (z.add D).R H'' H'' := r.dr.up (by rw [hacc]; simp) (by rw [hacc]; simp)
          obtain ⟨σ2, hg, hw, hev⟩ := hb n i x D H'' hP hi hx hD0 ((e.tr e2).tr r) rD
          refine hg _ ⟨hw, ?_⟩
          refine hev H'' rD _ fun y H4 e4 fy => ?_
          have h4D : H4 D = some (.lst acc) := e4.kp D _ nI hacc
          refine ⟨acc, h4D, Nat.lt_of_le_of_lt (show acc.length ≤ 100000 by omega) (by decide), (r.tr e4.dn).mut hD, acc ++ [y], upd_same, by rw [List.length_append, hl]; rfl, fun k w hk H3 w3 => ?_⟩
          have w45 : (z.add D).W H4 (upd H4 D (.lst (acc ++ [y]))) := fun a o na ha => by
            rw [upd_ne fun ea => na (Or.inr ea)]
            exact ha
          by_cases hk2 : k < acc.length
          · rw [List.getElem?_append_left hk2] at hk
            exact hφ k w hk H3 ((e4.w.tr w45).tr w3)
          · have ek : k = acc.length := by
              have h5 := (List.getElem?_eq_some_iff.mp hk).1
              rw [List.length_append, List.length_cons, List.length_nil] at h5
              omega
            subst ek
            rw [List.getElem?_append_right (Nat.le_refl _), Nat.sub_self] at hk
            have ey : y = w := Option.some.inj hk
            subst ey
            rw [hl]
            exact fy H3 (w45.tr w3)
        · left
          have ei : i = n := by omega
          subst ei
          exact ⟨S.stop H' w2, q _ H' (e2.tr r) fun H3 w3 => ⟨D, acc, rfl, nU, w3 D _ nU hacc, hl ▸ hP, fun k w hk => hφ k w hk H3 w3.dn⟩⟩)]
  intro b q h; simpa using FB.pinF b h
  eq_refl
/-- a loop over a tuple that stands, its target of any form -/
theorem s_forTG {g : TG} {xs : List V} (hR : z.R H H) (h : Ev z te σ H (Tup z fun ws _ => ws = xs)) (main : ∀ H1, z.R H H1 → ∃ Pv : Nat → L2.St → Hp → Prop, Pv 0 σ H1 ∧ (∀ i σ' H', Pv i σ' H' → z.W H1 H') ∧
      (∀ i x σ' H', xs[i]? = some x → Pv i σ' H' → g x σ' H' fun σ2 H2 => ts { D with nx := Pv (i + 1), ct := Pv (i + 1), bk := D.nx } σ2 H2) ∧ ∀ σ' H', Pv xs.length σ' H' → D.nx σ' H') : tFor (iTup K te) g ts D σ H := by
  refine' @FB.also _ _ ?_ ?_ ?_; rotate_left
  · intro wit__; simp only [↓FB.viaW wit__ (by
      clear wit__
      exact h H hR _ fun v H1 e f => by
          obtain ⟨p, ws, ev, nu, hp, ew⟩ := f H1 .refl
          subst ew
          obtain ⟨Pv, p0, pw, ps, pd⟩ := main H1 e
          exact ⟨p, ev, ⟨ws, .inl (.inl hp)⟩, for_tup (K := K) (a := p) (xs := ws) Pv p0 (fun i σ' H' _ q => .inl (.inl (pw i σ' H' q p _ nu hp))) (fun i x σ' H' hx q => ps i x σ' H' hx q) pd⟩)]
  intro b q h; simpa using FB.pinF b h
  eq_refl
theorem q_forTG {g : TG} {xs : List V} (hR : z.R H H) (h : Ev z te σ H (Tup z fun ws _ => ws = xs)) (main : ∀ H1, z.R H H1 → ∃ Pv : Nat → L2.St → Hp → Prop, Pv 0 σ H1 ∧ (∀ i σ' H', Pv i σ' H' → z.W H1 H') ∧
      (∀ i x σ' H', xs[i]? = some x → Pv i σ' H' → g x σ' H' fun σ2 H2 => ts { D with nx := Pv (i + 1), ct := Pv (i + 1), bk := tu D } σ2 H2) ∧ ∀ σ' H', Pv xs.length σ' H' → tu D σ' H') : tSeq (tFor (iTup K te) g ts) tu D σ H :=
  s_forTG (D := { D with nx := tu D }) hR h main
/-- x in a tuple just made -/
theorem ev_inT {xs : List V} {x : V} (ha : Ev z ta σ H (Is x)) (hb : ∀ H1, z.R H H1 → Ev z tb σ H1 (Tup z fun ws _ => ws = xs)) (fx : flatV x = true) (fs : xs.all flatV = true) : Ev z (tOp (rIn K false) ta tb) σ H (Is (.bl (inV x xs))) := by
  refine' @FB.also _ _ ?_ ?_ ?_; rotate_left
  · intro wit__; simp only [↓FB.viaW wit__ (by
      clear wit__
      exact ev_op ha (fun _ H1 r _ => hb H1 r) fun x' y H1 r e ⟨p, ws, e2, nu, hp, ew⟩ => by
          subst e2
          have e' : x' = x := e
          subst e'
          exact rn_val r.dr (fun Q q => ⟨p, xs, rfl, .inr (.inl (.inl (by rw [hp, ew]))), fx, fs, q⟩) fun _ _ => rfl)]
  intro b q h; simpa using FB.pinF b h
  eq_refl
theorem ev_notIn {p : Addr} {xs : List V} {x : V} (ha : Ev z ta σ H (Is x)) (hb : Ev z tb σ H (Is (.ref p))) (hp : ∀ H1, z.R H H1 → SqL K H1 p xs ∨ SqT K H1 p xs) (fx : flatV x = true) (fs : xs.all flatV = true) : Ev z (tOp (rIn K true) ta tb) σ H (Is (.bl (!inV x xs))) :=
  ev_op2 ha hb fun H1 r => rn_val r.dr (fun Q q => ⟨p, xs, rfl, hp H1 r, fx, fs, by simpa using q⟩) fun _ _ => rfl
end
end FB
set_option Elab.async false
set_option linter.all false
set_option maxRecDepth 100000
set_option maxHeartbeats 4000000
namespace FB
open PySem PySem.Spec PyProof.Rows L2 RZ
/-- a list of texts of which P holds -/
def LP (P : List Str → Prop) : List V → Hp → Prop := fun ws _ => ∃ xs : List Str, ws = xs.map V.str ∧ P xs
section
variable {z : Zn} {K : PySem.W.Frag} {σ : L2.St} {H : Hp} {te ta tb to ti : TE} {D : Ends} {ts tu : TS}
theorem s_subN {p : Addr} {xs : List V} {n : Nat} {v : V} (hR : z.R H H) (h : Ev z te σ H (Is v)) (ho : Ev z to σ H (Is (.ref p))) (hi : Ev z ti σ H (Nn n)) (ni : z.I p = none) (hp : H p = some (.lst xs)) (hn : n ≤ xs.length)
    (k : ∀ j H1, j < n → z.R H H1 → D.nx σ (upd H1 p (.lst (xs.set j v)))) : tAsg te (gSub to ti rSetL) D σ H := by
  refine' @FB.also _ _ ?_ ?_ ?_; rotate_left
  · intro wit__; simp only [↓FB.viaW wit__ (by
      clear wit__
      exact h H hR _ fun v1 H1 e1 f1 => ho H1 e1 _ fun v2 H2 e2 f2 => hi H2 (e1.tr e2) _ fun v3 H3 e3 f3 => by
        have q1 : v1 = v := f1 H1 .refl
        have q2 : v2 = .ref p := f2 H2 .refl
        obtain ⟨j, q3, hj⟩ := f3 H3 .refl
        subst q1
        subst q2
        subst q3
        have r := (e1.tr e2).tr e3
        exact ⟨p, xs, (j : Int), j, rfl, rfl, r.kp p _ ni hp, Evl.ixN_nat (by omega), k j H3 hj r⟩)]
  intro b q h; simpa using FB.pinF b h
  eq_refl
/-- sorted(set(texts)) -/
theorem ev_sortSetP {P : List Str → Prop} (h : Ev z te σ H (Lst z (LP P))) (h64 : ∀ xs, P xs → xs.length < 64) :
    Ev z (tSortSet K te) σ H (Lst z (LP fun ks => ∃ xs, P xs ∧ sortedS ks = true ∧ ks.Nodup ∧ (∀ k, k ∈ ks ↔ k ∈ xs) ∧ ks.length ≤ xs.length)) := by
  refine' @FB.also _ _ ?_ ?_ ?_; rotate_left
  · intro wit__; simp only [↓FB.viaW wit__ (by
      clear wit__
      exact fun H1 e Q q => h H1 e _ fun v H2 e2 f => by
        obtain ⟨p, ws, rfl, nu, hp, xs, ew, hP⟩ := f H2 .refl
        exact ⟨p, xs, rfl, .inl (.inl (.inl (by rw [hp, ew]))), h64 xs hP, fun ks p' h1 h2 h3 h4 hn => q _ _ (e2.tr (e2.dr.new hn)) fun H3 w => ⟨p', _, rfl, e2.dr.nu hn, w p' _ (e2.dr.nu hn) upd_same, ks, rfl, xs, hP, h1, h2, h3, h4⟩⟩)]
  intro b q h; simpa using FB.pinF b h
  eq_refl
/-- sorted(texts) -/
theorem ev_sortedLP {P : List Str → Prop} (h : Ev z te σ H (Lst z (LP P))) (h64 : ∀ xs, P xs → xs.length < 64) :
    Ev z (tCB (rSortedS K) (tCons te tNil)) σ H (Lst z (LP fun ks => ∃ xs, P xs ∧ ks.Perm xs ∧ sortedS ks = true)) := by
  refine' @FB.also _ _ ?_ ?_ ?_; rotate_left
  · intro wit__; simp only [↓FB.viaW wit__ (by
      clear wit__
      exact fun H1 e Q q =>
        h H1 e _ fun v H2 e2 f => by
          obtain ⟨p, ws, rfl, nu, hp, xs, ew, hP⟩ := f H2 .refl
          exact ⟨p, xs, rfl, .inl (.inl (by rw [hp, ew])), h64 xs hP, fun ks p' h1 h2 hn => q _ _ (e2.tr (e2.dr.new hn)) fun H3 w => ⟨p', _, rfl, e2.dr.nu hn, w p' _ (e2.dr.nu hn) upd_same, ks, rfl, xs, hP, h1, h2⟩⟩)]
  intro b q h; simpa using FB.pinF b h
  eq_refl
/-- texts[:n], n drawn -/
theorem ev_cutLP {P : List Str → Prop} {th : TE} {n : Nat} (h : Ev z te σ H (Lst z (LP P))) (hh : ∀ x H1, z.R H H1 → Lst z (LP P) x H1 → Ev z th σ H1 (Nn n)) :
    Ev z (L2.tSl (rSlL K) te tNoPart (tPart th)) σ H (Lst z (LP fun ys => ∃ xs, P xs ∧ ys.length ≤ xs.length ∧ ∀ y ∈ ys, y ∈ xs)) := by
  refine' @FB.also _ _ ?_ ?_ ?_; rotate_left
  · intro wit__; simp only [↓FB.viaW wit__ (by
      clear wit__
      exact fun H1 e Q q =>
        h H1 e _ fun v H2 e2 f => by
          refine hh v H2 (e.tr e2) (f H2 .refl) H2 e2.dr _ fun y H3 e3 g => ?_
          obtain ⟨i, rfl, hi⟩ := g H3 .refl
          refine ⟨(i : Int), rfl, ?_⟩
          obtain ⟨p, ws, rfl, nu, hp, xs, rfl, hP⟩ := f H3 e3.w
          obtain ⟨ys, e5, hl, hm⟩ := cut_strs xs none (some (i : Int))
          refine ⟨p, _, rfl, .inl (.inl hp), fun p' hn => q _ _ ((e2.tr e3).tr (e3.dr.new hn)) fun H4 w => ⟨p', _, rfl, e3.dr.nu hn, w p' _ (e3.dr.nu hn) upd_same, ys, e5, xs, hP, hl, hm⟩⟩)]
  intro b q h; simpa using FB.pinF b h
  eq_refl
/-- [x for x in a list that stands if a draw] -/
theorem ev_lcSub {wi : TI} {j : Nat} {xs : List V} {vs : List Nat} {tt : TT} (hs : EvI z wi σ H (· = xs.length) (fun i v => xs[i]? = some v)) (hn : xs.length ≤ 100000) (hv : ∀ x, wipe ((wipe σ vs).set j (some x)) vs = wipe σ vs)
    (hj : ∀ x : V, ((wipe σ vs).set j (some x))[j]? = some (some x))
    (ht : ∀ x D H1, H D = none → z.R H H1 → (z.add D).R H1 H1 → EvT (z.add D) tt ((wipe σ vs).set j (some x)) H1 (fun _ => True)) :
    Ev z (tLc wi (gName j) tt (tVar j) vs) σ H (Lst z fun ws _ => ws.Sublist xs) := by
  refine' @FB.also _ _ ?_ ?_ ?_; rotate_left
  · intro wit__; simp only [↓FB.viaW wit__ (by
      clear wit__
      exact fun H1 e Q q => by
        refine hs H1 e _ fun J H2 n hP e2 S D hD => ?_
        subst hP
        have hD0 : H D = none := (e.tr e2).back hD
        have nU : ¬ z.U D := e2.dr.nu hD
        have nI : z.I D = none := e2.dr.ni hD
        refine ⟨fun i m H' => i + m = xs.length ∧ z.R H2 H' ∧ ∃ acc : List V, H' D = some (.lst acc) ∧ acc.Sublist (xs.take i),
          ⟨xs.length, by omega, e2.dr.new hD, [], upd_same, List.nil_sublist _⟩, fun i m H' hW => ?_⟩
        obtain ⟨em, r, acc, hacc, hsub⟩ := hW
        have w2 : z.W H2 H' := r.w
        have hla : acc.length ≤ 100000 := by
          have := hsub.length_le
          rw [List.length_take] at this
          omega
        by_cases hi : i < xs.length
        · right
          refine ⟨S.go i H' w2 hi, fun H'' => z.R H2 H'' ∧ ∃ acc : List V, H'' D = some (.lst acc) ∧ acc.Sublist (xs.take (i + 1)), fun H'' h => ⟨m - 1, by omega, by omega, h⟩, fun x H'' hy => ?_⟩
          obtain ⟨rfl, hx⟩ := S.yld i H' x H'' w2 hi hy
          have rD : (z.add D).R H'' H'' := r.dr.up (by rw [hacc]; simp) (by rw [hacc]; simp)
          have etk : xs.take (i + 1) = xs.take i ++ [x] := by
            rw [List.take_add_one, hx]
            rfl
          refine ⟨hv x, ht x D H'' hD0 ((e.tr e2).tr r) rD H'' rD _ fun c H3 e3 _ => ?_⟩
          have h3D : H3 D = some (.lst acc) := e3.kp D _ nI hacc
          cases c with
          | true =>
            refine ⟨x, hj x, acc, h3D, Nat.lt_of_le_of_lt hla (by decide), (r.tr e3.dn).mut hD, acc ++ [x], upd_same, ?_⟩
            rw [etk]
            exact hsub.append (.refl _)
          | false =>
            refine ⟨r.tr e3.dn, acc, h3D, ?_⟩
            rw [etk]
            exact hsub.trans (List.sublist_append_left _ _)
        · left
          have ei : i = xs.length := by omega
          subst ei
          rw [List.take_length] at hsub
          exact ⟨S.stop H' w2, q _ H' (e2.tr r) fun H3 w3 => ⟨D, acc, rfl, nU, w3 D _ nU hacc, hsub⟩⟩)]
  intro b q h; simpa using FB.pinF b h
  eq_refl
theorem sub_strs : ∀ {ws : List V} {xs : List Str}, ws.Sublist (xs.map V.str) → ∃ ys : List Str, ws = ys.map V.str ∧ ys.Sublist xs := fun {ws xs} h => by
  obtain ⟨ys, hs, e⟩ := List.sublist_map_iff.mp h
  exact ⟨ys, e, hs⟩
end
section
variable {z : Zn} {K : PySem.W.Frag} {σ : L2.St} {H : Hp} {te ta : TE} {D : Ends} {ts tu : TS} {t : TT}
/-- an if whose truth nobody knows -/
theorem q_ifU (hR : z.R H H) (h : EvT z t σ H (fun _ => True)) (h1 : ∀ H1, z.R H H1 → ts { D with nx := tu D } σ H1) (h2 : ∀ H1, z.R H H1 → tu D σ H1) : tSeq (tIfS t ts tNext) tu D σ H := h H hR _ fun c H1 e _ => by
  cases c with
  | true => exact h1 H1 e
  | false => exact h2 H1 e
theorem et_any (h : Ev z te σ H (fun v _ => ∃ b, v = .bl b)) : EvT z (tTest te) σ H (fun _ => True) := fun H1 e Q q => h H1 e _ fun v H2 e2 f => by
  obtain ⟨b, e3⟩ := f H2 .refl
  exact ⟨b, e3, q b H2 e2 trivial⟩
theorem ev_drawEq {n : Nat} {k : Int} (h : Ev z ta σ H (Nn n)) : Ev z (tOp rEq ta (tC (.int k))) σ H (fun v _ => ∃ b, v = .bl b) := by
  refine' @FB.also _ _ ?_ ?_ ?_; rotate_left
  · intro wit__; simp only [↓FB.viaW wit__ (by
      clear wit__
      exact ev_op h (fun _ H1 r _ => ev_k) fun x y H1 r ⟨i, e, _⟩ e2 => by
          subst e
          have e2' : y = .int k := e2
          subst e2'
          exact rn_val r.dr (fun Q q => ⟨rfl, q⟩) fun _ _ => ⟨_, rfl⟩)]
  intro b q h; simpa using FB.pinF b h
  eq_refl
end
section
variable {z : Zn} {K : PySem.W.Frag} {σ : L2.St} {H : Hp} {te ta tb : TE} {D : Ends} {ts tu : TS}
/-- two lists that stand, one behind the other -/
theorem ev_catV {ws us : List V} (ha : Ev z ta σ H (Lst z fun ws' _ => ws' = ws)) (hb : ∀ H1, z.R H H1 → Ev z tb σ H1 (Lst z fun ws' _ => ws' = us)) (hn : ws.length + us.length ≤ 100000) : Ev z (tOp rCat ta tb) σ H (Lst z fun ws' _ => ws' = ws ++ us) := by
  refine' @FB.also _ _ ?_ ?_ ?_; rotate_left
  · intro wit__; simp only [↓FB.viaW wit__ (by
      clear wit__
      exact ev_op ha (fun _ H1 r _ => hb H1 r) fun x y H1 r ⟨p, ws', e1, n1, h1, l1⟩ ⟨p', us', e2, n2, h2, l2⟩ Q q => by
          subst l1
          subst l2
          exact ⟨p, p', _, _, e1, e2, h1, h2, Nat.le_trans hn (by decide), fun d hd => q _ _ (r.dr.new hd) fun H3 w => ⟨d, _, rfl, r.dr.nu hd, w d _ (r.dr.nu hd) upd_same, rfl⟩⟩)]
  intro b q h; simpa using FB.pinF b h
  eq_refl
theorem q_app {to : TE} {p : Addr} {xs : List V} {φ : VP} (hR : z.R H H) (ho : Ev z to σ H (Is (.ref p))) (h : ∀ H1, z.R H H1 → Ev z te σ H1 φ) (ni : z.I p = none) (hp : H p = some (.lst xs)) (hl : xs.length ≤ 100000)
    (k : ∀ v H1, z.R H H1 → (∀ H2, z.W H1 H2 → φ v H2) → tu D σ (upd H1 p (.lst (xs ++ [v])))) : tSeq (tDrop (tBM K "list" rAppend to (tCons te tNil))) tu D σ H := s_app (D := { D with nx := tu D }) hR ho h ni hp hl k
end
theorem q_par3 {z : Zn} {σ : L2.St} {H : Hp} {D : Ends} {tu : TS} {i j l : Nat} {ta : TA} {Φ : V → V → V → Hp → Prop} (hR : z.R H H) (h : EvA z ta σ H (fun vs H' => ∃ u v w, vs = [u, v, w] ∧ Φ u v w H')) (k : ∀ u v w H1, z.R H H1 → (∀ H2, z.W H1 H2 → Φ u v w H2) → tu D (((σ.set i (some u)).set j (some v)).set l (some w)) H1) : tSeq (tPar3 i j l ta) tu D σ H := by
  refine' @FB.also _ _ ?_ ?_ ?_; rotate_left
  · intro wit__; simp only [↓FB.viaW wit__ (by
      clear wit__
      exact h H hR _ fun vs H1 e f => by
          obtain ⟨u, v, w, ev, _⟩ := f H1 .refl
          refine ⟨u, v, w, ev, k u v w H1 e fun H2 w2 => ?_⟩
          obtain ⟨u', v', w', e', q⟩ := f H2 w2
          rw [ev] at e'
          cases e'
          exact q)]
  intro b q h; simpa using FB.pinF b h
  eq_refl
theorem gr_lt : ∀ {l : List Str} {x : Str}, grS (x :: l) = true → ∀ y ∈ l, ltS x y = true
  | [], _, _, y, h => by cases h
  | a :: r, x, g, y, h => by
    have g' : (ltS x a && grS (a :: r)) = true := g
    rw [Bool.and_eq_true] at g'
    rcases List.mem_cons.mp h with rfl | h
    · exact g'.1
    · exact ltS_trans g'.1 (gr_lt g'.2 y h)
theorem gr_tl {l : List Str} {x : Str} (g : grS (x :: l) = true) : grS l = true := by
  refine' @FB.also _ _ ?_ ?_ ?_; rotate_left
  · intro wit__; simp only [↓FB.viaW wit__ (by
      clear wit__
      cases l with
      | nil => rfl
      | cons y r =>
        have g' : (ltS x y && grS (y :: r)) = true := g
        rw [Bool.and_eq_true] at g'
        exact g'.2)]
  intro b q h; simpa using FB.pinF b h
  eq_refl
section
variable {z : Zn} {σ : L2.St} {H : Hp} {ta tb tc td : TE}
theorem ea_four {a b d : V} {φ : VP} (h1 : Ev z ta σ H (Is a)) (h2 : Ev z tb σ H (Is b)) (h3 : ∀ H1, z.R H H1 → Ev z tc σ H1 φ) (h4 : Ev z td σ H (Is d)) :
    EvA z (tCons ta (tCons tb (tCons tc (tCons td tNil)))) σ H (fun vs H' => ∃ y, φ y H' ∧ vs = [a, b, y, d]) := by
  refine' @FB.also _ _ ?_ ?_ ?_; rotate_left
  · intro wit__; simp only [↓FB.viaW wit__ (by
      clear wit__
      exact (ea_cons h1 fun _ H1 r1 _ => ea_cons (h2.up r1) fun _ H2 r2 _ => ea_cons (h3 H2 (r1.tr r2)) fun _ H3 r3 _ => ea_is (h4.up ((r1.tr r2).tr r3)) ea_nil).imp fun vs H' _ ⟨a', r, e, ea, b', r', e', eb, y, r'', e'', ey, e3⟩ =>
          ⟨y, ey, by rw [e, e', e'', e3, show a' = a from ea, show b' = b from eb]⟩)]
  intro b q h; simpa using FB.pinF b h
  eq_refl
end
end FB
set_option Elab.async false
set_option linter.all false
namespace FB
abbrev Tri := Int × Int × Int
abbrev Cel := Int × Int
def firstC : List Tri → Int → List Tri
  | [], _ => []
  | t :: r, n => if n ≤ 0 then [] else (t.1, t.2.1, if n < t.2.2 then n else t.2.2) :: firstC r (n - t.2.2)
/-- one more part, the last one longer where it goes on there -/
def joinStep (rows : List Tri) (t : Tri) : List Tri :=
  match rows.getLast? with
  | none => [t]
  | some l => if l.1 = t.1 ∧ l.2.1 + l.2.2 = t.2.1 then rows.dropLast ++ [(t.1, l.2.1, l.2.2 + t.2.2)] else rows ++ [t]
def joined (l : List Tri) : List Tri := l.foldl joinStep []
def one (c : Cel) : Tri := (c.1, c.2, 1)
def shr (l : List Tri) (n : Int) : List Tri := joined (firstC l n)
theorem first_len : ∀ (l : List Tri) (n : Int), (firstC l n).length ≤ l.length
  | [], _ => Nat.le_refl _
  | t :: r, n => by
    unfold firstC
    split
    · exact Nat.zero_le _
    · have := first_len r (n - t.2.2)
      simp only [List.length_cons]
      omega
theorem joinStep_app (rows : List Tri) (l t : Tri) : joinStep (rows ++ [l]) t = if l.1 = t.1 ∧ l.2.1 + l.2.2 = t.2.1 then rows ++ [(t.1, l.2.1, l.2.2 + t.2.2)] else (rows ++ [l]) ++ [t] := by
  refine' @FB.also _ _ ?_ ?_ ?_; rotate_left
  · intro wit__; simp only [↓FB.viaW wit__ (by
      clear wit__
      unfold joinStep
      rw [List.getLast?_concat]
      simp only [List.dropLast_concat])]
  intro b q h; simpa using FB.pinF b h
  eq_refl
/-- cells as they must be -/
def okC (cs : List Cel) : Prop := ∀ c ∈ cs, 1 ≤ c.1 ∧ 0 ≤ c.2
end FB
set_option Elab.async false
set_option linter.all false
set_option maxRecDepth 100000
set_option maxHeartbeats 4000000
namespace FB
open PySem PySem.Spec PyProof.Rows L2 RZ
def trD (t : Tri) : PyData := .tuple [.int t.1, .int t.2.1, .int t.2.2]
def paD (l : List Tri) : PyData := .tuple (l.map trD)
def plD (l : List Tri) : PyData := .list (l.map trD)
section
variable {U : Addr → Prop} {H : Hp}
theorem DU.intAt {v : V} {i : Int} (h : DU U H v (.int i)) : v = .int i := by cases h; rfl
theorem DU.lstAt {v : V} {ds : List PyData} (h : DU U H v (.list ds)) : ∃ a vs, v = .ref a ∧ ¬ U a ∧ H a = some (.lst vs) ∧ DUA U H vs ds := by
  refine' @FB.also _ _ ?_ ?_ ?_; rotate_left
  · intro wit__; simp only [↓FB.viaW wit__ (by
      clear wit__
      cases h with
      | lst n e t => exact ⟨_, _, rfl, n, e, t⟩)]
  intro b q h; simpa using FB.pinF b h
  eq_refl
theorem tr_at {v : V} {t : Tri} (h : DU U H v (trD t)) : ∃ a, v = .ref a ∧ ¬ U a ∧ H a = some (.tup [.int t.1, .int t.2.1, .int t.2.2]) := by
  refine' @FB.also _ _ ?_ ?_ ?_; rotate_left
  · intro wit__; simp only [↓FB.viaW wit__ (by
      clear wit__
      obtain ⟨a, vs, e, nu, ha, hd⟩ := h.tupAt
      cases hd with
      | cons h1 r => cases r with
        | cons h2 r => cases r with
          | cons h3 r => cases r with
            | nil =>
              rw [h1.intAt, h2.intAt, h3.intAt] at ha
              exact ⟨a, e, nu, ha⟩)]
  intro b q h; simpa using FB.pinF b h
  eq_refl
theorem DUA.set {vs : List V} {ds : List PyData} {v : V} {d : PyData} : ∀ {i : Nat}, DUA U H vs ds → DU U H v d → DUA U H (vs.set i v) (ds.set i d)
  | _, .nil, _ => .nil
  | 0, .cons h t, hv => .cons hv t
  | i + 1, .cons h t, hv => .cons h (t.set hv)
end
/-- the list at p, made since H, holds ds -/
structure Bl (z : Zn) (p : Addr) (H H' : Hp) (ds : List PyData) : Prop where
  r : z.R H H'
  w : (z.add p).W (upd H p (.lst [])) H'
  b : ∃ vs, H' p = some (.lst vs) ∧ DUA (z.add p).U H' vs ds
section
variable {z : Zn} {K : PySem.W.Frag} {σ : L2.St} {H H' H'' : Hp} {te ta tb to : TE} {D : Ends} {ts tu : TS} {p : Addr} {ds : List PyData}
theorem Bl.rz (b : Bl z p H H' ds) : (z.add p).R H' H' := by
  refine' @FB.also _ _ ?_ ?_ ?_; rotate_left
  · intro wit__; simp only [↓FB.viaW wit__ (by
      clear wit__
      obtain ⟨vs, hv, _⟩ := b.b
      exact b.r.dr.up (by rw [hv]; simp) (by rw [hv]; simp))]
  intro b q h; simpa using FB.pinF b h
  eq_refl
theorem Bl.go (b : Bl z p H H' ds) (hn : H p = none) (hz : z.R H H) (r : (z.add p).R H' H'') : Bl z p H H'' ds := by
  refine' @FB.also _ _ ?_ ?_ ?_; rotate_left
  · intro wit__; simp only [↓FB.viaW wit__ (by
      clear wit__
      obtain ⟨vs, hv, hd⟩ := b.b
      exact ⟨b.r.tr r.dn, b.w.tr r.w, vs, r.kp p _ (hz.ni hn) hv, hd.w r.w⟩)]
  intro b q h; simpa using FB.pinF b h
  eq_refl
/-- what was told ahead -/
theorem Bl.du (b : Bl z p H H' ds) (hn : H p = none) {v : V} {d : PyData} (h : DU z.U H v d) : DU (z.add p).U H' v d := h.add hn b.r.w
theorem Bl.at (b : Bl z p H H' ds) (hn : H p = none) {a : Addr} {o : HO} (nu : ¬ z.U a) (h : H a = some o) : ¬ (z.add p).U a ∧ H' a = some o := by
  refine' @FB.also _ _ ?_ ?_ ?_; rotate_left
  · intro wit__; simp only [↓FB.viaW wit__ (by
      clear wit__
      refine ⟨fun u => u.elim nu fun e => ?_, b.r.w a _ nu h⟩
      have e' : a = p := e
      rw [e', hn] at h
      cases h)]
  intro b q h; simpa using FB.pinF b h
  eq_refl
/-- x = [] -/
theorem q_new {i : Nat} (hz : z.R H H) (k : ∀ p, H p = none → Bl z p H (upd H p (.lst [])) [] → tu D (σ.set i (some (.ref p))) (upd H p (.lst []))) : tSeq (tAsg (tLst tNil) (gName i)) tu D σ H :=
  ⟨Nat.zero_le _, fun p hp => k p hp ⟨hz.new hp, .refl, [], upd_same, .nil⟩⟩
/-- x.append(e) -/
theorem bl_app {d : PyData} (b : Bl z p H H' ds) (hn : H p = none) (hz : z.R H H) (ho : Ev (z.add p) to σ H' (Is (.ref p))) (h : ∀ H1, (z.add p).R H' H1 → Ev (z.add p) te σ H1 (Dd (z.add p) d)) (hl : ds.length ≤ 100000)
    (k : ∀ H'', (z.add p).W H' H'' → Bl z p H H'' (ds ++ [d]) → D.nx σ H'') : tDrop (tBM K "list" rAppend to (tCons te tNil)) D σ H' := by
  refine' @FB.also _ _ ?_ ?_ ?_; rotate_left
  · intro wit__; simp only [↓FB.viaW wit__ (by
      clear wit__
      obtain ⟨vs, hv, hd⟩ := b.b
      have hlen := hd.len
      refine s_app (z := z.add p) (φ := Dd (z.add p) d) b.rz ho h (hz.ni hn) hv (by omega) fun v H1 r1 f1 => ?_
      have wu : (z.add p).W H1 (upd H1 p (.lst (vs ++ [v]))) := fun a o na ha => by
        rw [upd_ne fun ea => na (Or.inr ea)]
        exact ha
      have hv' : DU (z.add p).U (upd H1 p (.lst (vs ++ [v]))) v d := f1 _ wu
      exact k _ (r1.w.tr wu) ⟨(b.r.tr r1.dn).mut hn, (b.w.tr r1.w).tr wu, vs ++ [v], upd_same, ((hd.w r1.w).w wu).app (.one hv')⟩)]
  intro b q h; simpa using FB.pinF b h
  eq_refl
/-- x[-1] = e -/
theorem bl_last {d e : PyData} {ti : TE} (b : Bl z p H H' (ds ++ [d])) (hn : H p = none) (hz : z.R H H) (ho : ∀ H1, (z.add p).R H' H1 → Ev (z.add p) to σ H1 (Is (.ref p))) (hi : ∀ H1, (z.add p).R H' H1 → Ev (z.add p) ti σ H1 (Is (.int (-1)))) (h : Ev (z.add p) te σ H' (Dd (z.add p) e))
    (k : ∀ H'', (z.add p).W H' H'' → Bl z p H H'' (ds ++ [e]) → D.nx σ H'') : tAsg te (gSub to ti rSetL) D σ H' := by
  refine' @FB.also _ _ ?_ ?_ ?_; rotate_left
  · intro wit__; simp only [↓FB.viaW wit__ (by
      clear wit__
      exact h H' b.rz _ fun v H1 r1 f1 => ho H1 r1 H1 r1.dr _ fun v2 H2 r2 f2 => hi H2 (r1.tr r2) H2 r2.dr _ fun v3 H3 r3 f3 => by
        have q2 : v2 = .ref p := f2 H2 .refl
        have q3 : v3 = .int (-1) := f3 H3 .refl
        subst q2
        subst q3
        have b3 := b.go hn hz ((r1.tr r2).tr r3)
        obtain ⟨vs, hv, hd⟩ := b3.b
        have hlen := hd.len
        rw [List.length_append, List.length_cons, List.length_nil] at hlen
        refine ⟨p, vs, -1, vs.length - 1, rfl, rfl, hv, ?_, ?_⟩
        · unfold ixN
          rw [if_neg (by decide), if_pos (by omega)]
          congr 1
          omega
        · have wu : (z.add p).W H3 (upd H3 p (.lst (vs.set (vs.length - 1) v))) := fun a o na ha => by
            rw [upd_ne fun ea => na (Or.inr ea)]
            exact ha
          have hv' : DU (z.add p).U (upd H3 p (.lst (vs.set (vs.length - 1) v))) v e := f1 _ ((r2.w.tr r3.w).tr wu)
          refine k _ (((r1.tr r2).tr r3).w.tr wu) ⟨b3.r.mut hn, b3.w.tr wu, _, upd_same, ?_⟩
          have := (hd.w wu).set (i := vs.length - 1) hv'
          have e2 : (ds ++ [d]).set (vs.length - 1) e = ds ++ [e] := by
            rw [show vs.length - 1 = ds.length by omega]
            simp
          rwa [e2] at this)]
  intro b q h; simpa using FB.pinF b h
  eq_refl
/-- x[-1] -/
theorem ev_last {d : PyData} {ti : TE} (b : Bl z p H H' (ds ++ [d])) (hn : H p = none) (hz : z.R H H) (ho : Ev (z.add p) to σ H' (Is (.ref p))) (hi : Ev (z.add p) ti σ H' (Is (.int (-1)))) : Ev (z.add p) (tOp (rIxL K) to ti) σ H' (Dd (z.add p) d) := by
  refine' @FB.also _ _ ?_ ?_ ?_; rotate_left
  · intro wit__; simp only [↓FB.viaW wit__ (by
      clear wit__
      exact ev_op2 ho hi fun H1 r1 => by
          have b1 := b.go hn hz r1
          obtain ⟨vs, hv, hd⟩ := b1.b
          have hlen := hd.len
          rw [List.length_append, List.length_cons, List.length_nil] at hlen
          have hw : vs[vs.length - 1]? = some (vs[vs.length - 1]'(by omega)) := List.getElem?_eq_getElem _
          obtain ⟨d', hd', dv⟩ := hd.at hw
          have e : d' = d := by
            rw [show vs.length - 1 = ds.length by omega, List.getElem?_append_right (Nat.le_refl _), Nat.sub_self] at hd'
            exact (Option.some.inj hd').symm
          subst e
          refine rn_val r1.dr (fun Q q => ⟨p, vs, -1, _, rfl, rfl, .inl (.inl hv), ?_, q⟩) fun H2 w => dv.w w
          unfold atI ixN
          rw [if_neg (by decide), if_pos (by omega), show (-1 + (vs.length : Int)).toNat = vs.length - 1 by omega]
          exact hw)]
  intro b q h; simpa using FB.pinF b h
  eq_refl
/-- whether a list has anything -/
theorem et_list (b : Bl z p H H' ds) (hn : H p = none) (hz : z.R H H) (ho : Ev (z.add p) to σ H' (Is (.ref p))) : EvT (z.add p) (fun σ H Q => to σ H fun x H' => ∃ k, TruV K x H' k ∧ Q k H') σ H' (· = !ds.isEmpty) := by
  refine' @FB.also _ _ ?_ ?_ ?_; rotate_left
  · intro wit__; simp only [↓FB.viaW wit__ (by
      clear wit__
      exact fun H1 r1 Q q =>
        ho H1 r1 _ fun v H2 r2 f => by
          have e : v = .ref p := f H2 .refl
          subst e
          obtain ⟨vs, hv, hd⟩ := (b.go hn hz (r1.tr r2)).b
          have hlen := hd.len
          refine ⟨!vs.isEmpty, .inl ⟨vs, .inl (.inl hv), rfl⟩, q _ H2 r2 ?_⟩
          cases vs <;> cases ds <;> first | rfl | (simp at hlen))]
  intro b q h; simpa using FB.pinF b h
  eq_refl
/-- the list, told -/
theorem Bl.list (b : Bl z p H H' ds) (hn : H p = none) (hz : z.R H H) : DU z.U H' (.ref p) (.list ds) := by
  refine' @FB.also _ _ ?_ ?_ ?_; rotate_left
  · intro wit__; simp only [↓FB.viaW wit__ (by
      clear wit__
      obtain ⟨vs, hv, hd⟩ := b.b
      exact .lst (hz.nu hn) hv (hd.go fun a o n e => ⟨fun x => n (Or.inl x), e⟩))]
  intro b q h; simpa using FB.pinF b h
  eq_refl
/-- data that functions tell -/
def spF (A : Zn → Hp → List V → PyData → Prop) : Sp := fun vs H Q _ => ∃ z d, z.R H H ∧ A z H vs d ∧ ∀ v H', z.R H H' → (∀ H'', z.W H' H'' → DU z.U H'' v d) → Q v H'
theorem ev_F {A : Zn → Hp → List V → PyData → Prop} {E : XK} {t : TA} {Φ : List V → Hp → Prop} {d : PyData} (h : EvA z t σ H Φ) (hs : ∀ vs H1, z.R H H1 → Φ vs H1 → A z H1 vs d) : Ev z (tCall (spF A) [] E t) σ H (Dd z d) :=
  ev_call h fun vs H1 r f Q q => ⟨z, d, r.dr, by rw [List.append_nil]; exact hs vs H1 r f, fun v H' r' g => q v H' r' g⟩
theorem ev_bl {b : Bool} (h : Ev z te σ H (Dd z (.bool b))) : Ev z te σ H (Is (.bl b)) := h.imp fun v H' _ f => by
  have f' : DU z.U H' v (.bool b) := f
  cases f'
  rfl
/-- (a, b, c) of ints -/
theorem ev_tri {a b c : Int} {tc : TE} (h1 : Ev z ta σ H (Is (.int a))) (h2 : Ev z tb σ H (Is (.int b))) (h3 : Ev z tc σ H (Is (.int c))) : Ev z (tTup (tCons ta (tCons tb (tCons tc tNil)))) σ H (Dd z (trD (a, b, c))) := by
  refine' @FB.also _ _ ?_ ?_ ?_; rotate_left
  · intro wit__; simp only [↓FB.viaW wit__ (by
      clear wit__
      exact (ev_tup (ea_is h1 (ea_is h2 (ea_is h3 ea_nil))) fun vs H' e => by rw [e]; exact (show 3 ≤ 100000 by decide)).imp fun v H' _ ⟨p, ws, e, nu, hp, ew⟩ => by
          rw [e]
          exact .tup nu hp (by rw [ew]; exact .cons (.int a) (.cons (.int b) (.one (.int c)))))]
  intro b q h; simpa using FB.pinF b h
  eq_refl
/-- one of three names, from a part -/
theorem g_tri {i j l : Nat} {t : Tri} {v : V} {k : L2.St → Hp → Prop} (h : DU z.U H v (trD t)) (hk : k (((σ.set i (some (.int t.1))).set j (some (.int t.2.1))).set l (some (.int t.2.2))) H) : gTup K 3 (gCons (gName i) (gCons (gName j) (gCons (gName l) gNil))) v σ H k := by
  refine' @FB.also _ _ ?_ ?_ ?_; rotate_left
  · intro wit__; simp only [↓FB.viaW wit__ (by
      clear wit__
      obtain ⟨a, rfl, _, ha⟩ := tr_at h
      exact ⟨a, _, rfl, .inl (.inl ha), rfl, _, _, rfl, _, _, rfl, _, _, rfl, rfl, hk⟩)]
  intro b q h; simpa using FB.pinF b h
  eq_refl
/-- a, b, c = e, a part -/
theorem q_tri {i j l : Nat} {t : Tri} (hR : z.R H H) (h : Ev z te σ H (Dd z (trD t))) (k : ∀ H1, z.R H H1 → tu D (((σ.set i (some (.int t.1))).set j (some (.int t.2.1))).set l (some (.int t.2.2))) H1) :
    tSeq (tAsg te (gTup K 3 (gCons (gName i) (gCons (gName j) (gCons (gName l) gNil))))) tu D σ H := h H hR _ fun v H1 r f => g_tri (z := z) (f H1 .refl) (k H1 r)
/-- x -= e -/
theorem s_augI {i : Nat} {g : Int → Int → Int} {a b : Int} (hR : z.R H H) (h0 : σ[i]? = some (some (.int a))) (h : Ev z te σ H (Is (.int b))) (k : ∀ H1, z.R H H1 → D.nx (σ.set i (some (.int (g a b)))) H1) : tAug i te (ipI g) D σ H :=
  ⟨.int a, h0, h H hR _ fun v H1 r f => ⟨a, b, rfl, f H1 .refl, k H1 r⟩⟩
/-- tuple(a list), data -/
theorem ev_tupD (h : Ev z te σ H (Dd z (.list ds))) : Ev z (tCB (fun xs H Q => ∃ p ys, xs = [.ref p] ∧ ((SqL K H p ys ∧ ∀ l, H l = none → Q (.ref l) (upd H l (.tup ys))) ∨ (SqT K H p ys ∧ Q (.ref p) H))) (tCons te tNil)) σ H (Dd z (.tuple ds)) := by
  refine' @FB.also _ _ ?_ ?_ ?_; rotate_left
  · intro wit__; simp only [↓FB.viaW wit__ (by
      clear wit__
      exact (ev_tupleL (Φ := fun ws H' => DUA z.U H' ws ds) (h.imp fun v H' _ f => by
          obtain ⟨a, vs, e, nu, ha, hd⟩ := DU.lstAt f
          exact ⟨a, vs, e, nu, ha, hd⟩)).imp fun v H' _ ⟨p, ws, e, nu, hp, hd⟩ => by
            rw [e]
            exact .tup nu hp hd)]
  intro b q h; simpa using FB.pinF b h
  eq_refl
end
section
variable {z : Zn} {K : PySem.W.Frag} {σ : L2.St} {H : Hp} {te ta : TE} {D : Ends} {ts tu : TS} {X : Cx}
/-- a loop over a list that stands, its target of any form -/
theorem s_forLG {g : TG} {xs : List V} (hR : z.R H H) (h : Ev z te σ H (Lst z fun ws _ => ws = xs)) (main : ∀ H1, z.R H H1 → ∃ Pv : Nat → L2.St → Hp → Prop, Pv 0 σ H1 ∧ (∀ i σ' H', Pv i σ' H' → z.W H1 H') ∧
      (∀ i x σ' H', xs[i]? = some x → Pv i σ' H' → g x σ' H' fun σ2 H2 => ts { D with nx := Pv (i + 1), ct := Pv (i + 1), bk := D.nx } σ2 H2) ∧ ∀ σ' H', Pv xs.length σ' H' → D.nx σ' H') : tFor (iList K te) g ts D σ H := by
  refine' @FB.also _ _ ?_ ?_ ?_; rotate_left
  · intro wit__; simp only [↓FB.viaW wit__ (by
      clear wit__
      exact h H hR _ fun v H1 e f => by
          obtain ⟨p, ws, ev, nu, hp, ew⟩ := f H1 .refl
          subst ew
          obtain ⟨Pv, p0, pw, ps, pd⟩ := main H1 e
          exact ⟨p, ev, ⟨ws, .inl (.inl hp)⟩, for_list (K := K) (a := p) (xs := ws) Pv p0 (fun i σ' H' _ q => .inl (.inl (pw i σ' H' q p _ nu hp))) (fun i x σ' H' hx q => ps i x σ' H' hx q) pd⟩)]
  intro b q h; simpa using FB.pinF b h
  eq_refl
theorem q_forLG {g : TG} {xs : List V} (hR : z.R H H) (h : Ev z te σ H (Lst z fun ws _ => ws = xs)) (main : ∀ H1, z.R H H1 → ∃ Pv : Nat → L2.St → Hp → Prop, Pv 0 σ H1 ∧ (∀ i σ' H', Pv i σ' H' → z.W H1 H') ∧
      (∀ i x σ' H', xs[i]? = some x → Pv i σ' H' → g x σ' H' fun σ2 H2 => ts { D with nx := Pv (i + 1), ct := Pv (i + 1), bk := tu D } σ2 H2) ∧ ∀ σ' H', Pv xs.length σ' H' → tu D σ' H') : tSeq (tFor (iList K te) g ts) tu D σ H :=
  s_forLG (D := { D with nx := tu D }) hR h main
theorem ev_lstv2 {a : Addr} {vs : List V} {i : Nat} (e : σ[i]? = some (some (.ref a))) (n : ¬ z.U a) (h : H a = some (.lst vs)) : Ev z (tVar i) σ H (Lst z fun ws _ => ws = vs) :=
  ev_var e fun H' w => ⟨a, vs, rfl, n, w a _ n h, rfl⟩
end
def isIntD : PyData → Bool
  | .int _ => true
  | _ => false
theorem kit_int (d : PyData) : kitB (tyD d) "int" = some (isIntD d || isBlD d) := by
  refine' @FB.also _ _ ?_ ?_ ?_; rotate_left
  · intro wit__; simp only [↓FB.viaW wit__ (by
      clear wit__
      cases d <;> (simp only [tyD, isIntD, isBlD]; decide +kernel))]
  intro b q h; simpa using FB.pinF b h
  eq_refl
def goB (t : Tri) (p f : Int) : Bool := decide (V.int t.1 = V.int p) && decide (V.int (t.2.1 + t.2.2) = V.int f)
theorem goB_iff {t : Tri} {p f : Int} : goB t p f = true ↔ (t.1 = p ∧ t.2.1 + t.2.2 = f) := by
  refine' @FB.also _ _ ?_ ?_ ?_; rotate_left
  · intro wit__; simp only [↓FB.viaW wit__ (by
      clear wit__
      unfold goB
      rw [Bool.and_eq_true, decide_eq_true_eq, decide_eq_true_eq]
      constructor
      · rintro ⟨h1, h2⟩
        injection h1 with h1
        injection h2 with h2
        exact ⟨h1, h2⟩
      · rintro ⟨h1, h2⟩
        rw [h1, h2]
        exact ⟨rfl, rfl⟩)]
  intro b q h; simpa using FB.pinF b h
  eq_refl
def spFirst : Sp := spF fun z H vs d => ∃ v l n, vs = [v, .int n] ∧ DU z.U H v (paD l) ∧ l.length ≤ 30000 ∧ d = plD (firstC l n)
def spGo : Sp := spF fun z H vs d => ∃ v t p f, vs = [v, .int p, .int f] ∧ DU z.U H v (trD t) ∧ d = .bool (goB t p f)
def spJoin : Sp := spF fun z H vs d => ∃ v l, vs = [v] ∧ DU z.U H v (plD l) ∧ l.length ≤ 90000 ∧ d = paD (joined l)
def spShr : Sp := spF fun z H vs d => ∃ v l n, vs = [v, .int n] ∧ DU z.U H v (paD l) ∧ l.length ≤ 30000 ∧ d = paD (shr l n)
section
variable {z : Zn} {K : PySem.W.Frag} {σ : L2.St} {H : Hp} {te ta tb tc : TE} {E : XK}
theorem ev_isN {x : V} (h : Ev z te σ H (Is x)) : Ev z (tOp (fun x y H Q => y = .non ∧ Q (.bl (decide (x = .non))) H) te (tC .non)) σ H (Is (.bl (decide (x = .non)))) :=
  ev_op2 h ev_k fun H1 r => rn_val r.dr (fun Q q => ⟨rfl, q⟩) fun _ _ => rfl
theorem ev_first {l : List Tri} {n : Int} (h : Ev z te σ H (Dd z (paD l))) (h2 : Ev z ta σ H (Is (.int n))) (hl : l.length ≤ 30000) : Ev z (tCall spFirst [] E (tCons te (tCons ta tNil))) σ H (Dd z (plD (firstC l n))) := by
  refine' @FB.also _ _ ?_ ?_ ?_; rotate_left
  · intro wit__; simp only [↓FB.viaW wit__ (by
      clear wit__
      exact ev_F (A := fun z H vs d => ∃ v l n, vs = [v, .int n] ∧ DU z.U H v (paD l) ∧ l.length ≤ 30000 ∧ d = plD (firstC l n)) (ea_cons h fun v H1 r _ => ea_is (h2.up r) ea_nil) fun vs H1 r ⟨v, rr, e, hv, er⟩ => ⟨v, l, n, by rw [e, er], hv, hl, rfl⟩)]
  intro b q h; simpa using FB.pinF b h
  eq_refl
theorem ev_joined {l : List Tri} (h : Ev z te σ H (Dd z (plD l))) (hl : l.length ≤ 90000) : Ev z (tCall spJoin [] E (tCons te tNil)) σ H (Dd z (paD (joined l))) := by
  refine' @FB.also _ _ ?_ ?_ ?_; rotate_left
  · intro wit__; simp only [↓FB.viaW wit__ (by
      clear wit__
      exact ev_F (A := fun z H vs d => ∃ v l, vs = [v] ∧ DU z.U H v (plD l) ∧ l.length ≤ 90000 ∧ d = paD (joined l)) (ea_cons h fun v H1 r _ => ea_nil) fun vs H1 r ⟨v, rr, e, hv, er⟩ => ⟨v, l, by rw [e, er], hv, hl, rfl⟩)]
  intro b q h; simpa using FB.pinF b h
  eq_refl
end
/-- a def with a default behind the * -/
structure Dq (K : PySem.W.Frag) (mg : Str → Option Value) (x : Str) (st : Stmt) (kws : List (Str × V)) where
  f : Addr
  fd : FuncData
  F : FunD K x x (defArgs st) (defBody st) (defScope st) [] kws f fd
  g : mg x = some (.ref f)
theorem Dq.kb {K : PySem.W.Frag} {mg : Str → Option Value} {x : Str} {st : Stmt} {kws : List (Str × V)} (d : Dq K mg x st kws) {ps ks : List Str} {n : Nat} {g : List Value → List Value → List Value} {gV : List V → List V → List V}
    (h : ∀ (kV doc pm : Value) (an : Option Addr) (cdv ct : Value) (us ws : List Value), us.length = n → ws.length = ks.length → bindArgs (PySem.W.fnOf x x (defArgs st) (defBody st) (defScope st) .none kV doc pm an cdv ct) ⟨us, ks.zip ws⟩ = pure (ps.zip (g us ws)))
    (hr : ∀ {vs zs : List V} {us ws : List Value}, Vals vs us → Vals zs ws → Vals (gV vs zs) (g us ws)) : KBn K d.fd ps n ks g gV := by
  obtain ⟨oc, od, dV, kV, doc, pm, an, cdv, ct, osl, hfd, lk, hcd, hD, hK⟩ := d.F.ex
  rcases hD with ⟨_, hD⟩ | ⟨hD, _⟩
  · refine ⟨fun s us ws _ h1 h2 => ?_, fun r r2 => hr r r2⟩
    rw [hfd, hD]
    exact .of_eq (h kV doc pm an cdv ct us ws h1 h2)
  · exact absurd rfl hD
end FB
set_option Elab.async false
set_option linter.all false
set_option maxRecDepth 100000
set_option maxHeartbeats 4000000
namespace FB
open PySem PySem.Spec PyProof.Rows L2 RZ
theorem dict_tr : ∀ l : List Tri, PyData.hasDictAll (l.map trD) = false
  | [] => rfl
  | t :: r => by simp [PyData.hasDictAll, dict_tr r, trD, PyData.hasDict]
theorem nd_pa (l : List Tri) : (paD l).hasDict = false := by
  refine' @FB.also _ _ ?_ ?_ ?_; rotate_left
  · intro wit__; simp only [↓FB.viaW wit__ (by
      clear wit__
      simp only [paD, PyData.hasDict]
      exact dict_tr l)]
  intro b q h; simpa using FB.pinF b h
  eq_refl
section
variable {z : Zn} {K : PySem.W.Frag} {σ : L2.St} {H H' H'' : Hp} {te ta tb tc to : TE} {E : XK} {D : Ends} {ts tu : TS} {ds es : List PyData} {p : Addr}
theorem ev_neD {d e : PyData} (ha : Ev z ta σ H (Dd z d)) (hb : ∀ H1, z.R H H1 → Ev z tb σ H1 (Dd z e)) (h1 : d.hasDict = false) (h2 : e.hasDict = false) (s1 : SeqAt.shaped d = true) (s2 : SeqAt.shaped e = true) : Ev z (tOp (rNeD K) ta tb) σ H (Is (.bl (!PyData.eqv d e))) := by
  refine' @FB.also _ _ ?_ ?_ ?_; rotate_left
  · intro wit__; simp only [↓FB.viaW wit__ (by
      clear wit__
      exact ev_op ha (fun _ H1 r _ => hb H1 r) fun x y H1 r hx hy => rn_val r.dr (fun Q k => ⟨d, e, DU.dp hx h1, DU.dp hy h2, s1, s2, k⟩) fun _ _ => rfl)]
  intro b q h; simpa using FB.pinF b h
  eq_refl
theorem ev_neg1 : Ev z (tUn (rU fun i => .int (-i)) (tC (.int 1))) σ H (Is (.int (-1))) := by
  refine' @FB.also _ _ ?_ ?_ ?_; rotate_left
  · intro wit__; simp only [↓FB.viaW wit__ (by
      clear wit__
      exact ev_un ev_k fun x H1 r1 e1 => by
        have e1' : x = .int 1 := e1
        subst e1'
        exact rn_val r1.dr (fun Q q => ⟨1, rfl, q⟩) fun _ _ => rfl)]
  intro b q h; simpa using FB.pinF b h
  eq_refl
/-- x.append(e), e known by a property -/
theorem bl_appP {Pd : PyData → Prop} (b : Bl z p H H' ds) (hn : H p = none) (hz : z.R H H) (ho : Ev (z.add p) to σ H' (Is (.ref p))) (h : ∀ H1, (z.add p).R H' H1 → Ev (z.add p) te σ H1 (Ds (z.add p) Pd)) (hl : ds.length ≤ 100000)
    (k : ∀ d H'', Pd d → (z.add p).W H' H'' → Bl z p H H'' (ds ++ [d]) → D.nx σ H'') : tDrop (tBM K "list" rAppend to (tCons te tNil)) D σ H' := by
  refine' @FB.also _ _ ?_ ?_ ?_; rotate_left
  · intro wit__; simp only [↓FB.viaW wit__ (by
      clear wit__
      obtain ⟨vs, hv, hd⟩ := b.b
      have hlen := hd.len
      refine s_app (z := z.add p) (φ := Ds (z.add p) Pd) b.rz ho h (hz.ni hn) hv (by omega) fun v H1 r1 f1 => ?_
      have wu : (z.add p).W H1 (upd H1 p (.lst (vs ++ [v]))) := fun a o na ha => by
        rw [upd_ne fun ea => na (Or.inr ea)]
        exact ha
      obtain ⟨d, hP, hv'⟩ := f1 _ wu
      exact k d _ hP (r1.w.tr wu) ⟨(b.r.tr r1.dn).mut hn, (b.w.tr r1.w).tr wu, vs ++ [v], upd_same, ((hd.w r1.w).w wu).app (.one hv')⟩)]
  intro b q h; simpa using FB.pinF b h
  eq_refl
end
end FB
set_option Elab.async false
set_option linter.all false
set_option maxRecDepth 100000
set_option maxHeartbeats 4000000
namespace FB
open PySem PySem.Spec PyProof.Rows L2 RZ
/-- the cells with others from a place on -/
def laid (R N : List Cel) (a : Nat) : List Cel := R.take a ++ (N ++ R.drop (a + N.length))
end FB
set_option Elab.async false
set_option linter.all false
set_option maxRecDepth 100000
set_option maxHeartbeats 4000000
namespace FB
open PySem PySem.Spec PyProof.Rows L2 RZ
theorem lt1 {n : Nat} (h : n + 64 < cLine) : n + 1 < cLine := by omega
/-- a list grows by a tuple's items, whatever else the tuple holds -/
theorem list_ext_tup (l : Addr) (items : Array Value) (n : Nat) (b : Addr) (items2 : Array Value) (n2 : Nat) (dd : Option Addr) (sl : Array (Option Value)) (hs0 : ¬(!items.isEmpty && Builtin.List.listTooLong (items.size + items2.size)) = true) (hs1 : items.size ≤ sizeLine) (hs2 : items.size + items2.size ≤ sizeLine + 1) :
    Meets (Builtin.«list.extend» ⟨[.ref l, .ref b], []⟩) (fun _ R s => s.heap.get? l = some { cls := .type "list", dict := none, data := .seq items n, slots := #[] } ∧ s.heap.get? b = some { cls := .type "tuple", dict := dd, data := .seq items2 n2, slots := sl } ∧ R (.ok (.ret Value.none)) { s with heap := s.heap.update l (Obj.mapSeq fun x => x ++ items2), toks := s.toks }) := by
  refine' @FB.also _ _ ?_ ?_ ?_; rotate_left
  · intro wit__; simp only [↓FB.viaW wit__ (by
      clear wit__
      exact .of_wp fun prog w A R s h => by
          obtain ⟨hp, g, d, tk, os⟩ := s
          obtain ⟨hl, hb, h⟩ := h
          have f1 := PySem.AutoSeq1.idx_int
          have f2 := PySem.AutoSeq1.sub_tuple_tuple
          have f3 := PySem.AutoSeq1.sub_list_list
          have f4 := PySem.AutoSeq1.sub_tuple_list
          have f5 := PySem.AutoSeq1.sub_list_tuple
          have hz' : (items ++ items2).size ≤ sizeLine + 1 := by rw [Array.size_append]; exact hs2
          wp_walk using (wpAny_updateSeq hl rfl (hz := hs1) (_hz' := hz')), PySem.AutoSeq1.wpAny_loadPart' hl, PySem.AutoSeq1.wpAny_loadPart' hb
          exact ⟨_, rfl, h⟩)]
  intro b q h; simpa using FB.pinF b h
  eq_refl
section
variable {X : Cx}
/-- x.extend(a tuple) -/
def rExtendT : V → List V → Hp → VK → Prop := fun x vs H Q => ∃ l b xs zs, x = .ref l ∧ vs = [.ref b] ∧ H l = some (.lst xs) ∧ H b = some (.tup zs) ∧ xs.length + zs.length ≤ sizeLine ∧ Q .non (upd H l (.lst (xs ++ zs)))
theorem mt_extendT : MtM X "list.extend" rExtendT := by
  refine' @FB.also _ _ ?_ ?_ ?_; rotate_left
  · intro wit__; simp only [↓FB.viaW wit__ (by
      clear wit__
      intro pins s σ H x vs v us Q I rx rv h
      obtain ⟨l, b, xs, zs, rfl, rfl, hH, hB, hz, q⟩ := h
      cases rx
      obtain ⟨u, rfl, ru⟩ := rv.one
      cases ru
      obtain ⟨z, its, n, r, hl, e⟩ := I.lstM hH
      obtain ⟨its2, r2, ⟨ob, hg, hc, n2, hd⟩, hz2⟩ := I.tuple (.inl (.inl hB))
      obtain ⟨c, dd, dat, sl⟩ := ob
      have hc' : c = .type "tuple" := hc
      have hd' : dat = .seq its2.toArray n2 := hd
      subst hc'
      subst hd'
      have hsz : its.toArray.size + its2.toArray.size ≤ sizeLine := by rw [List.size_toArray, List.size_toArray, ← r.length, ← r2.length]; omega
      have hlong : ¬ (!its.toArray.isEmpty && Builtin.List.listTooLong (its.toArray.size + its2.toArray.size)) = true := by
        rw [notLongL hsz, Bool.and_false]
        exact Bool.false_ne_true
      refine call_meets PySem.F.slot_list_extend ⟨_, e, rfl⟩ PySem.F.entry_list_extend (PySem.F.args_list_extend_2 _ _)
        (list_ext_tup l its.toArray n b its2.toArray n2 dd sl hlong (by rw [List.size_toArray]; omega) (by omega)) ⟨e, hg, ?_⟩
      refine ⟨.non, _, I.lset (its' := its ++ its2) hH e (by simp) (r.append r2) ?_, rfl, q⟩
      rw [List.length_append]
      have := r.length
      have := r2.length
      omega)]
  intro b q h; simpa using FB.pinF b h
  eq_refl
end
variable {K : PySem.W.Frag}
abbrev Sto := List (Int × List Int)
def tuD (ns : List Int) : PyData := .tuple (ns.map .int)
def tabG (T : Sto) (j : Int) : Option (List Int) := (T.find? fun t => decide (t.1 = j)).map (·.2)
def kvZ (T : Sto) (vs : List V) : List (Key × V) := List.zipWith (fun t v => ((.inl t.1 : Key), v)) T vs
def Keys (T : Sto) : Prop := T.map (·.1) = (List.range T.length).map fun k : Nat => (k : Int) + 1
theorem tabG_neg {t : Int × List Int} {T : Sto} {j : Int} (e : ¬ t.1 = j) : tabG (t :: T) j = tabG T j := by simp [tabG, List.find?_cons, e]
theorem tabG_none {j : Int} : ∀ {T : Sto}, ¬ j ∈ T.map (·.1) → tabG T j = none
  | [], _ => rfl
  | t :: T, h => by
    rw [List.map_cons, List.mem_cons, not_or] at h
    rw [tabG_neg fun e => h.1 e.symm]
    exact tabG_none h.2
theorem Keys.nd {T : Sto} (h : Keys T) : (T.map (·.1)).Nodup := by
  refine' @FB.also _ _ ?_ ?_ ?_; rotate_left
  · intro wit__; simp only [↓FB.viaW wit__ (by
      clear wit__
      rw [h]
      exact (List.nodup_range).map _ fun a b e => by omega)]
  intro b q h; simpa using FB.pinF b h
  eq_refl
theorem Keys.new {T : Sto} (h : Keys T) : tabG T ((T.length : Int) + 1) = none := tabG_none fun m => by
  rw [h] at m
  obtain ⟨k, hk, e⟩ := List.mem_map.mp m
  have := List.mem_range.mp hk
  omega
theorem Keys.nil : Keys [] := rfl
section
variable {U : Addr → Prop} {H : Hp}
theorem valV_absent {kvs : List (Key × V)} {k : Key} (h : ¬ k ∈ kvs.map (·.1)) : valV kvs k = none := by
  refine' @FB.also _ _ ?_ ?_ ?_; rotate_left
  · intro wit__; simp only [↓FB.viaW wit__ (by
      clear wit__
      cases e : valV kvs k with
      | none => rfl
      | some v => exact absurd (valV_in e) h)]
  intro b q h; simpa using FB.pinF b h
  eq_refl
end
end FB
set_option Elab.async false
set_option linter.all false
set_option maxRecDepth 100000
set_option maxHeartbeats 4000000
namespace FB
open PySem PySem.Spec PyProof.Rows L2 RZ
section
variable {z : Zn} {K : PySem.W.Frag} {σ : L2.St} {H H' H'' : Hp} {te ta tb tc to td ty : TE} {E : XK} {D : Ends} {ts tu : TS} {p d : Addr} {kvs : List (Key × V)} {j : Int} {v : V} {ds : List PyData}
theorem ev_lenK (nd : z.I d = none) (hd : H d = some (.dK kvs)) (ho : Ev z td σ H (Is (.ref d))) : Ev z (tCB (fun xs H Q => ∃ a kvs, xs = [V.ref a] ∧ H a = some (.dK kvs) ∧ Q (.int kvs.length) H) (tCons td tNil)) σ H (Is (.int (kvs.length : Int))) := by
  refine' @FB.also _ _ ?_ ?_ ?_; rotate_left
  · intro wit__; simp only [↓FB.viaW wit__ (by
      clear wit__
      exact fun H1 e Q q =>
        ho H1 e _ fun x H2 e2 f => by
          have hx : x = .ref d := f H2 .refl
          subst hx
          exact ⟨d, kvs, rfl, (e.tr e2).kp d _ nd hd, q _ H2 e2 fun _ _ => rfl⟩)]
  intro b q h; simpa using FB.pinF b h
  eq_refl
end
/-- the store at q holds T -/
structure Stored (z : Zn) (H : Hp) (q : Addr) (T : Sto) (ws : List V) : Prop where
  at_ : H q = some (.dK (kvZ T ws))
  da : DUA z.U H ws (T.map fun t => tuD t.2)
theorem Stored.len {z : Zn} {H : Hp} {q : Addr} {T : Sto} {ws : List V} (s : Stored z H q T ws) : ws.length = T.length := by
  refine' @FB.also _ _ ?_ ?_ ?_; rotate_left
  · intro wit__; simp only [↓FB.viaW wit__ (by
      clear wit__
      have := s.da.len
      rwa [List.length_map] at this)]
  intro b q h; simpa using FB.pinF b h
  eq_refl
theorem Stored.go {z : Zn} {H H' : Hp} {q : Addr} {T : Sto} {ws : List V} (s : Stored z H q T ws) (n : z.I q = none) (r : z.R H H') : Stored z H' q T ws := ⟨r.kp q _ n s.at_, s.da.w r.w⟩
end FB
set_option Elab.async false
set_option linter.all false
set_option maxRecDepth 100000
set_option maxHeartbeats 4000000
namespace FB
open PySem PySem.Spec PyProof.Rows L2 RZ
section
variable {z : Zn} {K : PySem.W.Frag} {σ : L2.St} {H H' H'' : Hp} {te ta tb tc to td ty : TE} {E : XK} {D : Ends} {p d : Addr} {kvs : List (Key × V)} {j : Int} {v : V} {ds : List PyData}
theorem Stored.sub {q : Addr} {T : Sto} {ws : List V} (s : Stored (z.add p) H q T ws) : Stored z H q T ws := ⟨s.at_, s.da.go fun a o n e => ⟨fun u => n (Or.inl u), e⟩⟩
end
end FB
set_option Elab.async false
set_option linter.all false
set_option maxRecDepth 100000
set_option maxHeartbeats 4000000
namespace FB
open PySem PySem.Spec PyProof.Rows L2 RZ
end FB
set_option Elab.async false
set_option linter.all false
set_option maxRecDepth 100000
set_option maxHeartbeats 4000000
namespace FB
open PySem PySem.Spec PyProof.Rows L2
end FB
set_option Elab.async false
set_option linter.all false
set_option maxRecDepth 100000
set_option maxHeartbeats 4000000
namespace FB
open PySem PySem.Spec PyProof.Rows L2 RZ
end FB
set_option Elab.async false
set_option linter.all false
set_option maxRecDepth 100000
set_option maxHeartbeats 4000000
namespace FB
open PySem PySem.Spec PyProof.Rows L2 RZ
/-- room in a def that an except suite calls -/
theorem _root_.L2H.RoomH.units {k : Nat} {A : Around} (r : L2H.RoomH k A) : A.units + 64 < cLine := by
  refine' @FB.also _ _ ?_ ?_ ?_; rotate_left
  · intro wit__; simp only [↓FB.viaW wit__ (by
      clear wit__
      have := r.un
      omega)]
  intro b q h; simpa using FB.pinF b h
  eq_refl
theorem FnOk.or {P : Program} {w : World} {K : PySem.W.Frag} {mg : Str → Option Value} {base : Heap} {CX : CXT} {k : Nat} {f : Addr} {fd : FuncData} {ps : List Str} {s1 s2 : Sp} (F : FnOk P w K mg base CX k f fd ps s1) (G : FnOk P w K mg base CX k f fd ps s2) :
    FnOk P w K mg base CX k f fd ps (fun vs H Q E => s1 vs H Q E ∨ s2 vs H Q E) := by
  refine' @FB.also _ _ ?_ ?_ ?_; rotate_left
  · intro wit__; simp only [↓FB.viaW wit__ (by
      clear wit__
      exact ⟨fun vs H Q E h => h.elim (F.len vs H Q E) (G.len vs H Q E), fun A outer s H args us vs Q E hr e b v h => h.elim (F.run A outer s H args us vs Q E hr e b v) (G.run A outer s H args us vs Q E hr e b v)⟩)]
  intro b q h; simpa using FB.pinF b h
  eq_refl
section
variable {z : Zn} {K : PySem.W.Frag} {σ : L2.St} {H : Hp} {te ta tb to ti : TE} {t u : TT} {D : Ends} {ts tw tu : TS} {p : Addr} {ds : List PyData}
theorem ev_ixDL {d : PyData} {j : Nat} (h : Ev z ta σ H (Dd z (.list ds))) (h2 : ∀ H1, z.R H H1 → Ev z tb σ H1 (Is (.int (j : Int)))) (hd : ds[j]? = some d) : Ev z (tOp (rIxL K) ta tb) σ H (Dd z d) := by
  refine' @FB.also _ _ ?_ ?_ ?_; rotate_left
  · intro wit__; simp only [↓FB.viaW wit__ (by
      clear wit__
      exact ev_op h (fun _ H1 r _ => h2 H1 r) fun x y H1 r fx fy Q q => by
          obtain ⟨a, vs, ex, nu, ha, hds⟩ := DU.lstAt fx
          have ey : y = .int (j : Int) := fy
          have hlen := hds.len
          have hj : j < vs.length := by rw [hlen]; exact (List.getElem?_eq_some_iff.mp hd).1
          obtain ⟨d', hd', dv⟩ := hds.at (List.getElem?_eq_getElem hj)
          rw [hd] at hd'
          cases hd'
          exact ⟨a, vs, j, _, ex, ey, .inl (.inl ha), atI_nat (List.getElem?_eq_getElem hj), q _ H1 r.dr fun H2 w => dv.w w⟩)]
  intro b q h; simpa using FB.pinF b h
  eq_refl
end
end FB
set_option Elab.async false
set_option linter.all false
set_option maxRecDepth 100000
set_option maxHeartbeats 4000000
namespace PySem.SeqAt
open PySem PyProof.Rows
end PySem.SeqAt
namespace PySem.SeqAt
end PySem.SeqAt
namespace FB
open PySem PySem.Spec PyProof.Rows L2 RZ
end FB
set_option Elab.async false
set_option linter.all false
set_option maxRecDepth 100000
set_option maxHeartbeats 4000000
namespace FB
open PySem PySem.Spec PyProof.Rows L2 RZ
theorem Lf.int {i : Int} (h : i.natAbs ≤ 900) : Lf 0 10 (.int i) := by
  refine' @FB.also _ _ ?_ ?_ ?_; rotate_left
  · intro wit__; simp only [↓FB.viaW wit__ (by
      clear wit__
      have h1 : i.natAbs.log2 ≤ 9 := by
        by_cases e : i.natAbs = 0
        · rw [e]; decide
        · have := (Nat.log2_lt e).mpr (show i.natAbs < 2 ^ 10 by omega)
          omega
      refine ⟨?_, ?_, by simp [PyData.depth], ?_⟩
      · simp only [PyData.showable, decide_eq_true_eq]
        omega
      · simp only [PyData.leavesShort, decide_eq_true_eq]
        show (Str.ofString (toString i)).length ≤ 1000
        have := len_str_of_int i
        omega
      · simp only [PyData.weight]
        split <;> omega)]
  intro b q h; simpa using FB.pinF b h
  eq_refl
section
variable {z : Zn} {K : PySem.W.Frag} {σ : L2.St} {H : Hp} {te ta tb : TE} {ds es : List PyData}
theorem ev_catDT (ha : Ev z ta σ H (Dd z (.tuple ds))) (hb : ∀ H1, z.R H H1 → Ev z tb σ H1 (Dd z (.tuple es))) (hn : ds.length + es.length ≤ 100000) : Ev z (tOp (rCatA K) ta tb) σ H (Dd z (.tuple (ds ++ es))) := by
  refine' @FB.also _ _ ?_ ?_ ?_; rotate_left
  · intro wit__; simp only [↓FB.viaW wit__ (by
      clear wit__
      exact ev_op ha (fun _ H1 r _ => hb H1 r) fun x y H1 r hx hy Q k => by
          obtain ⟨p, ws, rfl, nu, hp, q⟩ := DU.tupAt hx
          obtain ⟨p', ws', rfl, nu', hp', q'⟩ := DU.tupAt hy
          have l1 := q.len
          have l2 := q'.len
          have cat : ∀ H3, z.W H1 H3 → ∀ p0 us, H3 p0 = some (.tup us) → ¬ z.U p0 → us = ws ++ ws' → Dd z (.tuple (ds ++ es)) (.ref p0) H3 := fun H3 w p0 us h0 n0 eu => .tup n0 h0 (by rw [eu]; exact (q.w w).app (q'.w w))
          refine ⟨p, p', ws, ws', rfl, rfl, .inl (.inl hp), .inl (.inl hp'), Nat.le_trans (show ws.length + ws'.length ≤ 100000 by omega) (by decide), fun h1 => ?_, fun _ h2 => ?_, fun _ _ d hd => ?_⟩
          · exact k _ H1 r.dr fun H3 w => cat H3 w p' ws' (w p' _ nu' hp') nu' (by rw [h1]; rfl)
          · exact k _ H1 r.dr fun H3 w => cat H3 w p ws (w p _ nu hp) nu (by rw [h2, List.append_nil])
          · exact k _ _ (r.dr.new hd) fun H3 w => cat H3 ((r.dr.new hd).w.tr w) d _ (w d _ (r.dr.nu hd) upd_same) (r.dr.nu hd) rfl)]
  intro b q h; simpa using FB.pinF b h
  eq_refl
theorem ev_ixDT {d : PyData} {j : Nat} (h : Ev z ta σ H (Dd z (.tuple ds))) (h2 : ∀ H1, z.R H H1 → Ev z tb σ H1 (Is (.int (j : Int)))) (hd : ds[j]? = some d) : Ev z (tOp (rIxT K) ta tb) σ H (Dd z d) := by
  refine' @FB.also _ _ ?_ ?_ ?_; rotate_left
  · intro wit__; simp only [↓FB.viaW wit__ (by
      clear wit__
      exact ev_op h (fun _ H1 r _ => h2 H1 r) fun x y H1 r fx fy Q q => by
          obtain ⟨a, vs, ex, nu, ha, hds⟩ := DU.tupAt fx
          have ey : y = .int (j : Int) := fy
          have hlen := hds.len
          have hj : j < vs.length := by rw [hlen]; exact (List.getElem?_eq_some_iff.mp hd).1
          obtain ⟨d', hd', dv⟩ := hds.at (List.getElem?_eq_getElem hj)
          rw [hd] at hd'
          cases hd'
          exact ⟨a, vs, j, _, ex, ey, .inl (.inl ha), atI_nat (List.getElem?_eq_getElem hj), q _ H1 r.dr fun H2 w => dv.w w⟩)]
  intro b q h; simpa using FB.pinF b h
  eq_refl
theorem ev_lenDT (h : Ev z te σ H (Dd z (.tuple ds))) : Ev z (tCB (fun xs H Q => ∃ y n, xs = [y] ∧ LenV K y H n ∧ Q (.int n) H) (tCons te tNil)) σ H (Is (.int (ds.length : Int))) := by
  refine' @FB.also _ _ ?_ ?_ ?_; rotate_left
  · intro wit__; simp only [↓FB.viaW wit__ (by
      clear wit__
      exact fun H1 e Q q =>
        h H1 e _ fun v H2 e2 f => by
          obtain ⟨a, vs, ev, nu, ha, hd⟩ := (f H2 .refl).tupAt
          refine ⟨_, ds.length, rfl, ?_, q _ H2 e2 fun _ _ => rfl⟩
          rw [ev, ← hd.len]
          exact Or.inr ⟨vs, .inl (.inl ha), rfl⟩)]
  intro b q h; simpa using FB.pinF b h
  eq_refl
/-- int(a truth) -/
theorem ev_int1 {b : Bool} (h : Ev z te σ H (Is (.bl b))) : Ev z (tCB (fun xs H Q => (∃ i, xs = [.int i] ∧ Q (.int i) H) ∨ ∃ k, xs = [.bl k] ∧ Q (.int (if k then 1 else 0)) H) (tCons te tNil)) σ H (Is (.int (if b then 1 else 0))) := fun H1 e Q q =>
  h H1 e _ fun v H2 e2 f => .inr ⟨b, by rw [show v = .bl b from f H2 .refl], q _ H2 e2 fun _ _ => rfl⟩
/-- from a drawn thing to what is told of it -/
theorem Ds.at {P : PyData → Prop} {v : V} {H1 : Hp} (f : ∀ H2, z.W H1 H2 → Ds z P v H2) : ∃ d, P d ∧ DU z.U H1 v d := f H1 .refl
end
end FB
set_option Elab.async false
set_option linter.all false
set_option maxRecDepth 100000
set_option maxHeartbeats 4000000
namespace FB
open PySem PySem.Spec PyProof.Rows L2 RZ
def putS (S : Sto) (j : Int) (ns : List Int) : Sto := if S.any (fun t => decide (t.1 = j)) then S.map (fun t => if t.1 = j then (t.1, ns) else t) else S ++ [(j, ns)]
def dropS (S : Sto) (j : Int) : Sto := S.filter fun t => decide (t.1 ≠ j)
/-- a store as the law makes them -/
structure GoodS (n : Nat) (S : Sto) : Prop where
  nd : (S.map (·.1)).Nodup
  le : S.length ≤ n
  sz : ∀ t ∈ S, t.2.length ≤ 200
theorem GoodS.nil : GoodS 0 [] := ⟨List.nodup_nil, Nat.le_refl _, fun t h => by cases h⟩
theorem GoodS.up {n m : Nat} {S : Sto} (h : GoodS n S) (k : n ≤ m) : GoodS m S := ⟨h.nd, Nat.le_trans h.le k, h.sz⟩
theorem GoodS.put {n : Nat} {S : Sto} (h : GoodS n S) {j : Int} {ns : List Int} (hn : ns.length ≤ 200) : GoodS (n + 1) (putS S j ns) := by
  refine' @FB.also _ _ ?_ ?_ ?_; rotate_left
  · intro wit__; simp only [↓FB.viaW wit__ (by
      clear wit__
      unfold putS
      by_cases e : S.any (fun t => decide (t.1 = j)) = true
      · rw [if_pos e]
        refine ⟨?_, by rw [List.length_map]; exact Nat.le_succ_of_le h.le, fun t ht => ?_⟩
        · rw [List.map_map]
          have : S.map ((·.1) ∘ fun t => if t.1 = j then (t.1, ns) else t) = S.map (·.1) := List.map_congr_left fun t _ => by
            show (if t.1 = j then (t.1, ns) else t).1 = t.1
            split <;> rfl
          rw [this]
          exact h.nd
        · obtain ⟨u, hu, rfl⟩ := List.mem_map.mp ht
          split
          · exact hn
          · exact h.sz u hu
      · rw [if_neg e]
        have hj : ¬ j ∈ S.map (·.1) := fun m => e (by
          obtain ⟨t, ht, et⟩ := List.mem_map.mp m
          exact List.any_eq_true.mpr ⟨t, ht, decide_eq_true et⟩)
        refine ⟨?_, by rw [List.length_append]; exact Nat.succ_le_succ h.le, fun t ht => ?_⟩
        · rw [List.map_append, List.nodup_append]
          refine ⟨h.nd, List.nodup_cons.mpr ⟨List.not_mem_nil, List.nodup_nil⟩, fun x hx y hy => ?_⟩
          have ey : y = j := by simpa using hy
          rw [ey]
          exact fun e => hj (e ▸ hx)
        · rcases List.mem_append.mp ht with ht | ht
          · exact h.sz t ht
          · rw [List.mem_singleton.mp ht]
            exact hn)]
  intro b q h; simpa using FB.pinF b h
  eq_refl
theorem GoodS.drop {n : Nat} {S : Sto} (h : GoodS n S) (j : Int) : GoodS n (dropS S j) := by
  refine' @FB.also _ _ ?_ ?_ ?_; rotate_left
  · intro wit__; simp only [↓FB.viaW wit__ (by
      clear wit__
      exact ⟨(List.Sublist.map _ List.filter_sublist).nodup h.nd, Nat.le_trans (List.length_filter_le _ _) h.le, fun t ht => h.sz t (List.mem_filter.mp ht).1⟩)]
  intro b q h; simpa using FB.pinF b h
  eq_refl
end FB
set_option Elab.async false
set_option linter.all false
set_option maxRecDepth 100000
set_option maxHeartbeats 4000000
namespace FB
open PySem PySem.W PySem.Calls PyProof.Rows PySem.HandSPX
end FB
namespace FB
open PySem PySem.Spec PyProof.Rows L2
end FB
set_option Elab.async false
set_option linter.all false
set_option maxRecDepth 100000
set_option maxHeartbeats 4000000
namespace FB
open PySem PySem.Spec PyProof.Rows L2 RZ
theorem k_fld {X : Cx} {K : PySem.W.Frag} {e : Expr} {f : Str} {pos : Pos} {ta : TE} (h : PE X e ta) (hb : attributeBase e f X.env (eval e X.env) = eval e X.env) (hK : X.K = K := by rfl) : PE X (e.Attribute f pos) (tFld K ta f) := hK ▸ pe_fld h hb
/-- a class with an __init__ of its own -/
structure Di (K : PySem.W.Frag) (mg : Str → Option Value) (C : Addr) (x : Str) (st : Stmt) (ps : List Str) where
  f : Addr
  fd : FuncData
  F : Fun K "__init__" (x ++ ".__init__") st f fd
  mk1 : Mk K C f
  g : mg x = some (.ref C)
  b : Binds K fd ps []
/-- a method -/
structure Dm (K : PySem.W.Frag) (C : Addr) (m q : Str) (st : Stmt) (ps : List Str) where
  f : Addr
  fd : FuncData
  F : Fun K m q st f fd
  at_ : Meth K C m f
  b : Binds K fd ps []
/-- what a written dict holds for a text -/
def KD (K : PySem.W.Frag) (w : World) (p : Addr) (z : Str) (r : Option Value) : Prop := (p == sysModules) = false ∧ ∃ es n, K.lookup p = some { cls := Value.type "dict", data := Data.dict es n } ∧ PySem.W.KeysLit w.params es.toList ∧ PySem.W.nsIn K p z = some r
def rInKD (K : PySem.W.Frag) (w : World) : R2 := fun x y H Q => ∃ p z r, x = .str z ∧ y = .ref p ∧ KD K w p z r ∧ Q (.bl r.isSome) H
theorem op_inKD {X : Cx} {K : PySem.W.Frag} (hK : X.K = K := by rfl) : OpR X (compareOp .In) (rInKD K X.w) := by
  refine' @FB.also _ _ ?_ ?_ ?_; rotate_left
  · intro wit__; simp only [↓FB.viaW wit__ (by
      clear wit__
      subst hK
      intro pins s σ H x y v u Q I rx ry h
      obtain ⟨p, z, r, rfl, rfl, ⟨hs, es, n, hl, hk, hn⟩, q⟩ := h
      obtain ⟨t, rfl⟩ := (show ∃ t, v = Value.str z t from rx)
      obtain rfl : u = Value.ref p := ry
      refine wpAny_in_of (strKind_is X.prog X.w z t) hs (PySem.W.mapOf_K I.kIn hl hk) ?_
      rw [PySem.W.find_K hl hn]
      exact ⟨.bl r.isSome, H, I.tok _, rfl, q⟩)]
  intro b q h; simpa using FB.pinF b h
  eq_refl
theorem k_ixKD {X : Cx} {K : PySem.W.Frag} (hK : X.K = K := by rfl) : IxR X (rIxD K X.w) := hK ▸ ix_kdict
end FB
set_option Elab.async false
set_option linter.all false
set_option maxRecDepth 100000
set_option maxHeartbeats 4000000
namespace FB
open PySem PySem.Spec PyProof.Rows L2 RZ
/-- a folder (with the dict of its names) or a file -/
structure Nd where
  dx : Addr
  ow : Str
  gr : Str
  rt : V
  op : Bool
  nm : Option Addr
  lim : V
  parts : V
  size : Int
  prom : Int
  links : Int
  kids : List (Str × Addr)
  r1 : Str
  r2 : Str
  r3 : Str
  ps : List Tri
def Nd.flds (n : Nd) : List (Str × V) := match n.nm with
  | some d => [("kind", .str "folder"), ("owner", .str n.ow), ("group", .str n.gr), ("rights", n.rt), ("is_open", .bl n.op), ("names", .ref d), ("limit", n.lim)]
  | none => [("kind", .str "file"), ("owner", .str n.ow), ("group", .str n.gr), ("rights", n.rt), ("is_open", .bl n.op), ("names", .non), ("parts", n.parts), ("size", .int n.size), ("promised", .int n.prom), ("links", .int n.links)]
def NodeAt (CF CL : Addr) (H : Hp) (a : Addr) (n : Nd) : Prop := H a = some (.ins (if n.nm.isSome then CF else CL) n.dx n.flds)
theorem nd_owner (n : Nd) : n.flds.lookup ("owner" : Str) = some (.str n.ow) := by unfold Nd.flds; cases n.nm <;> rfl
theorem nd_group (n : Nd) : n.flds.lookup ("group" : Str) = some (.str n.gr) := by unfold Nd.flds; cases n.nm <;> rfl
theorem nd_rights (n : Nd) : n.flds.lookup ("rights" : Str) = some n.rt := by unfold Nd.flds; cases n.nm <;> rfl
def nmV : Option Addr → V
  | some d => .ref d
  | none => .non
theorem nd_names (n : Nd) : n.flds.lookup ("names" : Str) = some (nmV n.nm) := by unfold Nd.flds; cases n.nm <;> rfl
def kindS (n : Nd) : Str := if n.nm.isSome then "folder" else "file"
theorem nd_kind (n : Nd) : n.flds.lookup ("kind" : Str) = some (.str (kindS n)) := by unfold Nd.flds kindS; cases n.nm <;> rfl
theorem nd_parts (n : Nd) (h : n.nm = none) : n.flds.lookup ("parts" : Str) = some n.parts := by unfold Nd.flds; rw [h]; rfl
theorem nd_size (n : Nd) (h : n.nm = none) : n.flds.lookup ("size" : Str) = some (.int n.size) := by unfold Nd.flds; rw [h]; rfl
theorem nd_links (n : Nd) (h : n.nm = none) : n.flds.lookup ("links" : Str) = some (.int n.links) := by unfold Nd.flds; rw [h]; rfl
/-- stores -/
theorem put_owner (n : Nd) (o : Str) : putF "owner" (.str o) n.flds = ({ n with ow := o } : Nd).flds := by unfold Nd.flds; cases n.nm <;> rfl
theorem put_group (n : Nd) (o : Str) : putF "group" (.str o) n.flds = ({ n with gr := o } : Nd).flds := by unfold Nd.flds; cases n.nm <;> rfl
theorem put_rights (n : Nd) (v : V) : putF "rights" v n.flds = ({ n with rt := v } : Nd).flds := by unfold Nd.flds; cases n.nm <;> rfl
theorem put_op (n : Nd) (b : Bool) : putF "is_open" (.bl b) n.flds = ({ n with op := b } : Nd).flds := by unfold Nd.flds; cases n.nm <;> rfl
theorem nd_op (n : Nd) : n.flds.lookup ("is_open" : Str) = some (.bl n.op) := by unfold Nd.flds; cases n.nm <;> rfl
theorem put_parts (n : Nd) (h : n.nm = none) (v : V) : putF "parts" v n.flds = ({ n with parts := v } : Nd).flds := by unfold Nd.flds; rw [h]; rfl
theorem put_size (n : Nd) (h : n.nm = none) (i : Int) : putF "size" (.int i) n.flds = ({ n with size := i } : Nd).flds := by unfold Nd.flds; rw [h]; rfl
theorem put_links (n : Nd) (h : n.nm = none) (i : Int) : putF "links" (.int i) n.flds = ({ n with links := i } : Nd).flds := by unfold Nd.flds; rw [h]; rfl
theorem flds_len (n : Nd) : n.flds.length < 1000 := by unfold Nd.flds; cases n.nm <;> first | (show 7 < 1000; decide) | (show 10 < 1000; decide)
abbrev Fo := List (Str × List Str)
def usF : Fo → Str → List Str
  | [], _ => []
  | p :: r, g => if p.1 = g then p.2 else usF r g
def inC (c : Nat) (t : Str) : Bool := decide (c ∈ t.cps.toList)
def mayB (fo : Fo) (user : Str) (c : Nat) (owner group a b d : Str) : Bool :=
  if user = "root" then true else if user = owner then inC c a else if inV (.str user) ((usF fo group).map V.str) = true then inC c b else inC c d
def opn (n : Nd) : Bool := inC 114 n.r1 && (inC 114 n.r2 && inC 114 n.r3)
def mayN (fo : Fo) (user : Str) (c : Nat) (n : Nd) : Bool := mayB fo user c n.ow n.gr n.r1 n.r2 n.r3
theorem may_open {fo : Fo} {user : Str} {n : Nd} (h : opn n = true) : mayN fo user 114 n = true := by
  refine' @FB.also _ _ ?_ ?_ ?_; rotate_left
  · intro wit__; simp only [↓FB.viaW wit__ (by
      clear wit__
      unfold opn at h
      rw [Bool.and_eq_true, Bool.and_eq_true] at h
      unfold mayN mayB
      rw [h.1, h.2.1, h.2.2]
      simp)]
  intro b q h; simpa using FB.pinF b h
  eq_refl
/-- the members as a dict -/
def kvM (fo : Fo) (ws : List V) : List (Key × V) := List.zipWith (fun g v => ((.inr g.1 : Key), v)) fo ws
structure MemAt (z : Zn) (H : Hp) (q : Addr) (fo : Fo) (ws : List V) : Prop where
  at_ : H q = some (.dK (kvM fo ws))
  da : DUA z.U H ws (fo.map fun g => .tuple (g.2.map PyData.str))
theorem MemAt.go {z : Zn} {H H' : Hp} {q : Addr} {fo : Fo} {ws : List V} (s : MemAt z H q fo ws) (n : z.I q = none) (r : z.R H H') : MemAt z H' q fo ws := ⟨r.kp q _ n s.at_, s.da.w r.w⟩
section
variable {U : Addr → Prop} {H : Hp}
/-- what a name finds there: its users, or nothing -/
theorem mem_get {g : Str} : ∀ {fo : Fo} {ws : List V}, DUA U H ws (fo.map fun g => .tuple (g.2.map PyData.str)) → (valV (kvM fo ws) (.inr g : Key) = none ∧ usF fo g = []) ∨ ∃ v, valV (kvM fo ws) (.inr g : Key) = some v ∧ DU U H v (.tuple ((usF fo g).map PyData.str))
  | [], _, .nil => .inl ⟨rfl, rfl⟩
  | t :: T, v :: vs, .cons hv hr => by
    by_cases e : t.1 = g
    · refine .inr ⟨v, valV_pos (p := ((.inr t.1 : Key), v)) (by rw [e]), ?_⟩
      unfold usF
      rw [if_pos e]
      exact hv
    · have en : valV (kvM (t :: T) (v :: vs)) (.inr g : Key) = valV (kvM T vs) (.inr g : Key) := valV_neg (p := ((.inr t.1 : Key), v)) (r := kvM T vs) fun q => e (Sum.inr.inj q)
      have eu : usF (t :: T) g = usF T g := by
        show (if t.1 = g then t.2 else usF T g) = _
        rw [if_neg e]
      rw [en, eu]
      exact mem_get hr
theorem dua_strs : ∀ {ns : List Str} {vs : List V}, DUA U H vs (ns.map PyData.str) → vs = ns.map V.str
  | [], _, .nil => rfl
  | n :: ns, v :: vs, .cons h t => by
    cases h
    rw [dua_strs t]
    rfl
end
/-- what the written part says of both classes -/
structure NodeK (K : PySem.W.Frag) (CF CL : Addr) : Prop where
  cF : Cls K CF
  cL : Cls K CL
  nF : ∀ f ∈ (["kind", "owner", "group", "rights", "is_open", "names", "limit"] : List Str), NoAttr K CF f
  nL : ∀ f ∈ (["kind", "owner", "group", "rights", "is_open", "names", "parts", "size", "promised", "links"] : List Str), NoAttr K CL f
  ne : CF ≠ CL
def ndF : List Str := ["kind", "owner", "group", "rights", "names", "is_open"]
theorem NodeK.no {K : PySem.W.Frag} {CF CL : Addr} (N : NodeK K CF CL) (n : Nd) {f : Str} (hf : f ∈ ndF) : NoAttr K (if n.nm.isSome then CF else CL) f := by
  refine' @FB.also _ _ ?_ ?_ ?_; rotate_left
  · intro wit__; simp only [↓FB.viaW wit__ (by
      clear wit__
      simp only [ndF, List.mem_cons, List.not_mem_nil, or_false] at hf
      split
      · exact N.nF f (by rcases hf with rfl | rfl | rfl | rfl | rfl | rfl <;> simp)
      · exact N.nL f (by rcases hf with rfl | rfl | rfl | rfl | rfl | rfl <;> simp))]
  intro b q h; simpa using FB.pinF b h
  eq_refl
theorem NodeK.cl {K : PySem.W.Frag} {CF CL : Addr} (N : NodeK K CF CL) (n : Nd) : Cls K (if n.nm.isSome then CF else CL) := by
  refine' @FB.also _ _ ?_ ?_ ?_; rotate_left
  · intro wit__; simp only [↓FB.viaW wit__ (by
      clear wit__
      split
      · exact N.cF
      · exact N.cL)]
  intro b q h; simpa using FB.pinF b h
  eq_refl
section
variable {z : Zn} {K : PySem.W.Frag} {σ : L2.St} {H H' : Hp} {te ta tb td ty : TE} {D : Ends} {ts tu : TS} {a CF CL C dx d : Addr} {n : Nd} {f : Str} {v : V} {φ : VP} {kvs : List (Key × V)}
theorem ev_fld {fs : List (Str × V)} (na : z.I a = none) (ha : H a = some (.ins C dx fs)) (cl : Cls K C) (nf : NoAttr K C f) (hv : fs.lookup f = some v) (h : Ev z te σ H (Is (.ref a))) : Ev z (tFld K te f) σ H (Is v) := by
  refine' @FB.also _ _ ?_ ?_ ?_; rotate_left
  · intro wit__; simp only [↓FB.viaW wit__ (by
      clear wit__
      exact fun H1 e Q q =>
        h H1 e _ fun x H2 e2 g => ⟨a, C, dx, fs, v, g H2 .refl, (e.tr e2).kp a _ na ha, cl, nf, hv, q v H2 e2 fun _ _ => rfl⟩)]
  intro b q h; simpa using FB.pinF b h
  eq_refl
theorem ev_nd (N : NodeK K CF CL) (na : z.I a = none) (ha : NodeAt CF CL H a n) (hf : f ∈ ndF) (hv : n.flds.lookup f = some v) (h : Ev z te σ H (Is (.ref a))) : Ev z (tFld K te f) σ H (Is v) := ev_fld na ha (N.cl n) (N.no n hf) hv h
theorem NodeAt.go (h : NodeAt CF CL H a n) (na : z.I a = none) (r : z.R H H') : NodeAt CF CL H' a n := r.kp a _ na h
/-- x in d, a text in a dict that stands -/
theorem ev_din {x : Str} (nd : z.I d = none) (hd : H d = some (.dK kvs)) (ho : ∀ H1, z.R H H1 → Ev z td σ H1 (Is (.ref d))) (hi : Ev z ty σ H (Is (.str x))) : Ev z (tDIn ty td) σ H (Is (.bl (valV kvs (.inr x : Key)).isSome)) := by
  refine' @FB.also _ _ ?_ ?_ ?_; rotate_left
  · intro wit__; simp only [↓FB.viaW wit__ (by
      clear wit__
      exact fun H1 e Q q =>
        hi H1 e _ fun y H2 e2 g => ho H2 (e.tr e2) H2 e2.dr _ fun x' H3 e3 f => by
          have hx : x' = .ref d := f H3 .refl
          have hy : y = .str x := g H2 .refl
          subst hy
          exact ⟨d, _, hx, DGet.k (k := (.inr x : Key)) (((e.tr e2).tr e3).kp d _ nd hd), q _ H3 (e2.tr e3) fun _ _ => rfl⟩)]
  intro b q h; simpa using FB.pinF b h
  eq_refl
theorem ev_dnin {x : Str} (nd : z.I d = none) (hd : H d = some (.dK kvs)) (ho : ∀ H1, z.R H H1 → Ev z td σ H1 (Is (.ref d))) (hi : Ev z ty σ H (Is (.str x))) : Ev z (tDNotIn ty td) σ H (Is (.bl (!(valV kvs (.inr x : Key)).isSome))) := by
  refine' @FB.also _ _ ?_ ?_ ?_; rotate_left
  · intro wit__; simp only [↓FB.viaW wit__ (by
      clear wit__
      exact fun H1 e Q q =>
        hi H1 e _ fun y H2 e2 g => ho H2 (e.tr e2) H2 e2.dr _ fun x' H3 e3 f => by
          have hx : x' = .ref d := f H3 .refl
          have hy : y = .str x := g H2 .refl
          subst hy
          exact ⟨d, _, hx, DGet.k (k := (.inr x : Key)) (((e.tr e2).tr e3).kp d _ nd hd), q _ H3 (e2.tr e3) fun _ _ => rfl⟩)]
  intro b q h; simpa using FB.pinF b h
  eq_refl
theorem ev_dgetS {x : Str} (nd : z.I d = none) (hd : H d = some (.dK kvs)) (ho : Ev z td σ H (Is (.ref d))) (hi : ∀ H1, z.R H H1 → Ev z ty σ H1 (Is (.str x))) (hv : valV kvs (.inr x : Key) = some v) : Ev z (tDGet td ty) σ H (Is v) := by
  refine' @FB.also _ _ ?_ ?_ ?_; rotate_left
  · intro wit__; simp only [↓FB.viaW wit__ (by
      clear wit__
      exact fun H1 e Q q =>
        ho H1 e _ fun x' H2 e2 f => hi H2 (e.tr e2) H2 e2.dr _ fun y H3 e3 g => by
          have hx : x' = .ref d := f H2 .refl
          have hy : y = .str x := g H3 .refl
          subst hy
          have k := DGet.k (k := (.inr x : Key)) (((e.tr e2).tr e3).kp d _ nd hd)
          rw [hv] at k
          exact ⟨d, v, hx, k, q v H3 (e2.tr e3) fun _ _ => rfl⟩)]
  intro b q h; simpa using FB.pinF b h
  eq_refl
/-- a, b, c = e, a tuple that stands whatever becomes of the zone -/
theorem q_un3K {i j l : Nat} {rt w1 w2 w3 : V} (hR : z.R H H) (hr : ∀ H1, z.R H H1 → ∃ p, rt = .ref p ∧ SqT K H1 p [w1, w2, w3]) (h : Ev z te σ H (Is rt)) (k : ∀ H1, z.R H H1 → tu D (((σ.set i (some w1)).set j (some w2)).set l (some w3)) H1) :
    tSeq (tAsg te (gTup K 3 (gCons (gName i) (gCons (gName j) (gCons (gName l) gNil))))) tu D σ H := by
  refine' @FB.also _ _ ?_ ?_ ?_; rotate_left
  · intro wit__; simp only [↓FB.viaW wit__ (by
      clear wit__
      exact h H hR _ fun y H1 e f => by
        have ey : y = rt := f H1 .refl
        obtain ⟨p, ep, hp⟩ := hr H1 e
        exact ⟨p, [w1, w2, w3], by rw [ey, ep], hp, rfl, w1, [w2, w3], rfl, w2, [w3], rfl, w3, [], rfl, rfl, k H1 e⟩)]
  intro b q h; simpa using FB.pinF b h
  eq_refl
end
/-- the rights of a node stand in a tuple, of the heap or of the written part -/
def RtAt (K : PySem.W.Frag) (z : Zn) (H : Hp) (n : Nd) : Prop := ∃ p, n.rt = .ref p ∧ ((¬ z.U p ∧ H p = some (.tup [.str n.r1, .str n.r2, .str n.r3])) ∨ ∀ H', SqT K H' p [.str n.r1, .str n.r2, .str n.r3])
theorem RtAt.w {K : PySem.W.Frag} {z : Zn} {H H' : Hp} {n : Nd} (h : RtAt K z H n) (w : z.W H H') : RtAt K z H' n := let ⟨p, e, k⟩ := h; ⟨p, e, k.imp (fun ⟨h1, h2⟩ => ⟨h1, w p _ h1 h2⟩) id⟩
theorem RtAt.sq {K : PySem.W.Frag} {z : Zn} {H H' : Hp} {n : Nd} (h : RtAt K z H n) (w : z.W H H') : ∃ p, n.rt = .ref p ∧ SqT K H' p [.str n.r1, .str n.r2, .str n.r3] := let ⟨p, e, k⟩ := h; ⟨p, e, k.elim (fun ⟨h1, h2⟩ => .inl (.inl (w p _ h1 h2))) fun k => k H'⟩
def spLets (K : PySem.W.Frag) (CF CL : Addr) : Sp := fun vs H Q _ => ∃ (z : Zn) (q : Addr) (fo : Fo) (ws : List V) (user : Str) (c : Nat) (a : Addr) (n : Nd), vs = [.ref q, .str user, .str ⟨#[c]⟩, .ref a] ∧ z.R H H ∧ z.I q = none ∧ MemAt z H q fo ws ∧ z.I a = none ∧ NodeAt CF CL H a n ∧ RtAt K z H n ∧ ∀ H', z.R H H' → Q (.bl (mayN fo user c n)) H'
end FB
namespace FB
open PySem PySem.Spec PyProof.Rows L2 RZ
def kidsK (kids : List (Str × Addr)) : List (Key × V) := kids.map fun p => ((.inr p.1 : Key), V.ref p.2)
def kidOf (kids : List (Str × Addr)) (x : Str) : Option Addr := (kids.find? fun p => decide (p.1 = x)).map (·.2)
theorem kids_val {x : Str} : ∀ kids : List (Str × Addr), valV (kidsK kids) (.inr x : Key) = (kidOf kids x).map V.ref
  | [] => rfl
  | p :: r => by
    by_cases e : p.1 = x
    · have h1 : valV (kidsK (p :: r)) (.inr x : Key) = some (.ref p.2) := valV_pos (p := ((.inr p.1 : Key), V.ref p.2)) (by rw [e])
      rw [h1]
      unfold kidOf
      rw [List.find?_cons_of_pos (by simpa using e)]
      rfl
    · have h1 : valV (kidsK (p :: r)) (.inr x : Key) = valV (kidsK r) (.inr x : Key) := valV_neg (p := ((.inr p.1 : Key), V.ref p.2)) (r := kidsK r) fun q => e (Sum.inr.inj q)
      rw [h1, kids_val r]
      unfold kidOf
      rw [List.find?_cons_of_neg (by simpa using e)]
theorem kidOf_mem {kids : List (Str × Addr)} {x : Str} {b : Addr} (h : kidOf kids x = some b) : (x, b) ∈ kids := by
  refine' @FB.also _ _ ?_ ?_ ?_; rotate_left
  · intro wit__; simp only [↓FB.viaW wit__ (by
      clear wit__
      unfold kidOf at h
      obtain ⟨p, hp, e⟩ := Option.map_eq_some_iff.mp h
      have e1 := List.find?_some hp
      have e2 : p.1 = x := of_decide_eq_true e1
      have := List.mem_of_find?_eq_some hp
      rw [← e2, ← e]
      exact this)]
  intro b q h; simpa using FB.pinF b h
  eq_refl
/-- the nodes of a tree as they stand -/
structure TrAt (K : PySem.W.Frag) (CF CL : Addr) (z : Zn) (H : Hp) (N : Addr → Option Nd) : Prop where
  at_ : ∀ a n, N a = some n → z.I a = none ∧ NodeAt CF CL H a n ∧ RtAt K z H n
  kd : ∀ a n d, N a = some n → n.nm = some d → z.I d = none ∧ H d = some (.dK (kidsK n.kids))
  ok : ∀ a n x b, N a = some n → (x, b) ∈ n.kids → ∃ m, N b = some m
  op : ∀ a n, N a = some n → n.op = opn n
  pa : ∀ a n, N a = some n → n.nm = none → DU z.U H n.parts (paD n.ps)
theorem TrAt.go {K : PySem.W.Frag} {CF CL : Addr} {z : Zn} {H H' : Hp} {N : Addr → Option Nd} (t : TrAt K CF CL z H N) (r : z.R H H') : TrAt K CF CL z H' N := by
  refine' @FB.also _ _ ?_ ?_ ?_; rotate_left
  · intro wit__; simp only [↓FB.viaW wit__ (by
      clear wit__
      exact ⟨fun a n h => let ⟨h1, h2, h3⟩ := t.at_ a n h; ⟨h1, h2.go h1 r, h3.w r.w⟩, fun a n d h e => let ⟨h1, h2⟩ := t.kd a n d h e; ⟨h1, r.kp d _ h1 h2⟩, t.ok, t.op, fun a n h e => (t.pa a n h e).w r.w⟩)]
  intro b q h; simpa using FB.pinF b h
  eq_refl
/-- where a path leads: a WORD, or a node -/
def goN (N : Addr → Option Nd) (fo : Fo) (user : Str) : List Str → Addr → Str ⊕ Addr
  | [], a => .inr a
  | x :: r, a => match N a with
    | none => .inr a
    | some n => if n.nm = none then .inl "nofolder" else if mayN fo user 114 n = false then .inl "noright" else match kidOf n.kids x with
      | none => .inl "nothere"
      | some b => goN N fo user r b
def outV : Str ⊕ Addr → V
  | .inl w => .str w
  | .inr a => .ref a
def paS (xs : List Str) : PyData := .tuple (xs.map PyData.str)
def PathOk (xs : List Str) : Prop := xs.length ≤ 6 ∧ ∀ x ∈ xs, isW x = true
theorem isW_len {x : Str} (h : isW x = true) : x.length ≤ 8 := by
  refine' @FB.also _ _ ?_ ?_ ?_; rotate_left
  · intro wit__; simp only [↓FB.viaW wit__ (by
      clear wit__
      unfold isW at h
      rw [Bool.and_eq_true, Bool.and_eq_true] at h
      exact of_decide_eq_true h.1.2)]
  intro b q h; simpa using FB.pinF b h
  eq_refl
theorem path_isP {xs : List Str} (h : PathOk xs) : isPathD (paS xs) = true := by
  refine' @FB.also _ _ ?_ ?_ ?_; rotate_left
  · intro wit__; simp only [↓FB.viaW wit__ (by
      clear wit__
      show (decide ((xs.map PyData.str).length ≤ 6) && (xs.map PyData.str).all isWordD) = true
      rw [List.length_map, decide_eq_true h.1, Bool.true_and, List.all_map]
      exact List.all_eq_true.mpr fun x hx => h.2 x hx)]
  intro b q h; simpa using FB.pinF b h
  eq_refl
theorem path_Tl {xs : List Str} (h : PathOk xs) : Tl (paS xs) := by
  refine' @FB.also _ _ ?_ ?_ ?_; rotate_left
  · intro wit__; simp only [↓FB.viaW wit__ (by
      clear wit__
      exact fun ds e => by
        have e' : ds = xs.map PyData.str := by
          injection e with e
          exact e.symm
        subst e'
        refine ⟨by rw [List.length_map]; have := h.1; omega, fun d hd x ex => ?_⟩
        obtain ⟨y, hy, rfl⟩ := List.mem_map.mp hd
        injection ex with ex
        subst ex
        have := isW_len (h.2 y hy)
        omega)]
  intro b q h; simpa using FB.pinF b h
  eq_refl
def spGone (K : PySem.W.Frag) (CF CL : Addr) : Sp := fun vs H Q _ => ∃ (z : Zn) (q top : Addr) (fo : Fo) (ws : List V) (user : Str) (v : V) (xs : List Str) (N : Addr → Option Nd), vs = [.ref q, .ref top, v, .str user] ∧ z.R H H ∧ z.I q = none ∧ MemAt z H q fo ws ∧ DU z.U H v (paS xs) ∧ PathOk xs ∧ TrAt K CF CL z H N ∧ (∃ n, N top = some n) ∧ ∀ H', z.R H H' → Q (outV (goN N fo user xs top)) H'
section
variable {z : Zn} {K : PySem.W.Frag} {σ : L2.St} {H : Hp} {t : TT} {D : Ends} {ts es tu : TS} {ta tb tc td : TE} {E : XK}
theorem q_ifE {b : Bool} (hR : z.R H H) (h : EvT z t σ H (· = b)) (h1 : b = true → ∀ H1, z.R H H1 → ts { D with nx := tu D } σ H1) (h2 : b = false → ∀ H1, z.R H H1 → es { D with nx := tu D } σ H1) : tSeq (tIfS t ts es) tu D σ H := s_if (D := { D with nx := tu D }) hR h h1 h2
theorem ev_lets {CF CL q a : Addr} {fo : Fo} {ws : List V} {user : Str} {c : Nat} {n : Nd} (nq : z.I q = none) (hm : MemAt z H q fo ws) (na : z.I a = none) (hn : NodeAt CF CL H a n) (hr : RtAt K z H n) (h1 : Ev z ta σ H (Is (.ref q))) (h2 : ∀ H1, z.R H H1 → Ev z tb σ H1 (Is (.str user))) (h3 : ∀ H1, z.R H H1 → Ev z tc σ H1 (Is (.str ⟨#[c]⟩))) (h4 : ∀ H1, z.R H H1 → Ev z td σ H1 (Is (.ref a))) :
    Ev z (tCall (spLets K CF CL) [] E (tCons ta (tCons tb (tCons tc (tCons td tNil))))) σ H (Is (.bl (mayN fo user c n))) := by
  refine' @FB.also _ _ ?_ ?_ ?_; rotate_left
  · intro wit__; simp only [↓FB.viaW wit__ (by
      clear wit__
      exact ev_call (ea_cons (φ := Is (.ref q)) h1 fun _ H1 r1 _ => ea_cons (φ := Is (.str user)) (h2 H1 r1) fun _ H2 r2 _ => ea_cons (φ := Is (.str ⟨#[c]⟩)) (h3 H2 (r1.tr r2)) fun _ H3 r3 _ => ea_cons (φ := Is (.ref a)) (h4 H3 ((r1.tr r2).tr r3)) fun _ _ _ _ => ea_nil) fun vs H1 r ⟨a1, s1, e1, f1, a2, s2, e2, f2, a3, s3, e3, f3, a4, s4, e4, f4, e5⟩ Q k => by
          have g1 : a1 = .ref q := f1
          have g2 : a2 = .str user := f2
          have g3 : a3 = .str ⟨#[c]⟩ := f3
          have g4 : a4 = .ref a := f4
          exact ⟨z, q, fo, ws, user, c, a, n, by rw [e1, e2, e3, e4, e5, g1, g2, g3, g4]; rfl, r.dr, nq, hm.go nq r, na, hn.go na r, hr.w r.w, fun H' r' => k _ H' r' fun _ _ => rfl⟩)]
  intro b q h; simpa using FB.pinF b h
  eq_refl
end
end FB
set_option Elab.async false
set_option linter.all false
set_option maxRecDepth 100000
set_option maxHeartbeats 4000000
namespace FB
open PySem PySem.Spec PyProof.Rows L2 RZ
structure Co where
  dx : Addr
  gv : V
  mem : Addr
  clock : Int
  top : Addr
  pr : Addr
  made : Int
  li : Addr
  sh : Addr
  wt : Bool
  st : Addr
  sn : Addr
  sd : Addr
def Co.flds (c : Co) : List (Str × V) := [("groups", c.gv), ("members", .ref c.mem), ("clock", .int c.clock), ("top", .ref c.top), ("promises", .ref c.pr), ("made", .int c.made), ("limited", .ref c.li), ("shares", .ref c.sh), ("is_watched", .bl c.wt), ("strains", .ref c.st), ("snaps", .ref c.sn), ("snapped", .ref c.sd)]
def coF : List Str := ["groups", "members", "clock", "top", "promises", "made", "limited", "shares", "is_watched", "strains", "snaps", "snapped"]
structure CoreK (K : PySem.W.Frag) (CK : Addr) : Prop where
  cl : Cls K CK
  no : ∀ f ∈ coF, NoAttr K CK f
/-- isinstance of the program's own objects -/
structure KindK (K : PySem.W.Frag) (CF CL : Addr) : Prop where
  c1 : ∀ C, C = CF ∨ C = CL → PySem.W.findIn K (.ref C) "__class__" = some (some (.builtin "object.__class__")) ∧ PySem.W.mroIn K C (.type "object") = some true ∧ PySem.W.kitOne K (.ref C) (.type "str") = some false
  c2 : PySem.W.specialIn K (.builtin "object.__class__") "__get__" = some (some (.builtin "getset_descriptor.__get__"))
  c3 : PySem.W.takesIn K (.builtin "object.__class__") = some true
  fl : PySem.W.kitOne K (.ref CF) (.ref CL) = some false
  ll : PySem.W.kitOne K (.ref CL) (.ref CL) = some true
  sl : PySem.W.kitOne K (.type "str") (.ref CL) = some false
def CoreAt (CK : Addr) (H : Hp) (c : Addr) (co : Co) : Prop := H c = some (.ins CK co.dx co.flds)
section
variable {z : Zn} {K : PySem.W.Frag} {σ : L2.St} {H H' : Hp} {te ta tb tc td : TE} {tas : TA} {D : Ends} {ts tu : TS} {a CF CL CK C dx c : Addr} {n : Nd} {f : Str} {v : V} {co : Co} {E : XK}
theorem CoreAt.go (h : CoreAt CK H c co) (nc : z.I c = none) (r : z.R H H') : CoreAt CK H' c co := r.kp c _ nc h
theorem ev_co (T : CoreK K CK) (nc : z.I c = none) (hc : CoreAt CK H c co) (hf : f ∈ coF) (hv : co.flds.lookup f = some v) (h : Ev z te σ H (Is (.ref c))) : Ev z (tFld K te f) σ H (Is v) := ev_fld nc hc T.cl (T.no f hf) hv h
theorem NodeAt.ty (N : NodeK K CF CL) (T : KindK K CF CL) (h : NodeAt CF CL H a n) : TyX K H (.ref a) (.ref (if n.nm.isSome then CF else CL)) := by
  refine' @FB.also _ _ ?_ ?_ ?_; rotate_left
  · intro wit__; simp only [↓FB.viaW wit__ (by
      clear wit__
      have hC : (if n.nm.isSome then CF else CL) = CF ∨ (if n.nm.isSome then CF else CL) = CL := by split <;> simp
      obtain ⟨h1, h2, _⟩ := T.c1 _ hC
      exact .base (.ins h (N.cl n) h1 T.c2 T.c3 h2))]
  intro b q h; simpa using FB.pinF b h
  eq_refl
theorem ev_isNd {u : Value} {b : Bool} {cv : V} (N : NodeK K CF CL) (T : KindK K CF CL) (na : z.I a = none) (hn : NodeAt CF CL H a n) (hk : ClsV cv u) (hb : PySem.W.kitOne K (.ref (if n.nm.isSome then CF else CL)) u = some b) (h : Ev z te σ H (Is (.ref a))) (h2 : Ev z ta σ H (Is cv)) : Ev z (tCB (rIsi K) (tCons te (tCons ta tNil))) σ H (Is (.bl b)) := by
  refine' @FB.also _ _ ?_ ?_ ?_; rotate_left
  · intro wit__; simp only [↓FB.viaW wit__ (by
      clear wit__
      exact ev_cb (ea_is h (ea_is h2 ea_nil)) fun vs H1 r e Q q => ⟨_, _, _, _, b, e, hk, (hn.go na r).ty N T, hb, q _ H1 r.dr fun _ _ => rfl⟩)]
  intro b q h; simpa using FB.pinF b h
  eq_refl
theorem KindK.str (T : KindK K CF CL) (n : Nd) : PySem.W.kitOne K (.ref (if n.nm.isSome then CF else CL)) (.type "str") = some false := by
  refine' @FB.also _ _ ?_ ?_ ?_; rotate_left
  · intro wit__; simp only [↓FB.viaW wit__ (by
      clear wit__
      split
      · exact (T.c1 CF (.inl rfl)).2.2
      · exact (T.c1 CL (.inr rfl)).2.2)]
  intro b q h; simpa using FB.pinF b h
  eq_refl
/-- path[:-1], path[-1] -/
theorem ev_initS {xs : List Str} (h : Ev z te σ H (Dd z (paS xs))) : Ev z (L2.tSl (rSlA K) te tNoPart (tPart (tUn (rU fun i => .int (-i)) (tC (.int 1))))) σ H (Dd z (paS xs.dropLast)) := by
  refine' @FB.also _ _ ?_ ?_ ?_; rotate_left
  · intro wit__; simp only [↓FB.viaW wit__ (by
      clear wit__
      have e : cutV (xs.map V.str) none (some (-1)) = xs.dropLast.map V.str := by
        unfold cutV
        rw [HT.sIx_none, List.dropLast_eq_take, List.map_take, List.drop_zero, Nat.sub_zero, List.length_map]
        congr 1
        unfold HT.sIx
        simp
        omega
      refine (ev_slT (xs := xs.map V.str) (h.imp fun v H' _ f => ?_) eo_none (eo_some ev_neg1)).imp fun v H' _ ⟨p, ws, e1, nu, hp, ew⟩ => ?_
      · obtain ⟨p, us, e1, np, hp, du⟩ := DU.tupAt f
        exact ⟨p, us, e1, np, hp, dua_strs du⟩
      · rw [e1]
        refine .tup nu hp ?_
        rw [ew, e]
        exact DUA.strs _)]
  intro b q h; simpa using FB.pinF b h
  eq_refl
theorem ev_lastS {xs : List Str} {x : Str} (h : Ev z te σ H (Dd z (paS xs))) (hx : xs.getLast? = some x) : Ev z (tOp (rIxT K) te (tUn (rU fun i => .int (-i)) (tC (.int 1)))) σ H (Is (.str x)) := by
  refine' @FB.also _ _ ?_ ?_ ?_; rotate_left
  · intro wit__; simp only [↓FB.viaW wit__ (by
      clear wit__
      exact ev_op h (fun _ H1 r _ => ev_neg1) fun y w H1 r fy ew Q q => by
          obtain ⟨p, us, e1, np, hp, du⟩ := DU.tupAt fy
          have eu := dua_strs du
          subst eu
          have ew' : w = .int (-1) := ew
          have hne : xs ≠ [] := fun e => by rw [e] at hx; cases hx
          have hl : 0 < xs.length := List.length_pos_iff.mpr hne
          have hx' : xs[xs.length - 1]? = some x := by rw [← List.getLast?_eq_getElem?]; exact hx
          refine ⟨p, _, -1, .str x, e1, ew', .inl (.inl hp), ?_, q _ H1 r.dr fun _ _ => rfl⟩
          unfold atI ixN
          rw [if_neg (by decide), List.length_map, if_pos (by omega), show (-1 + (xs.length : Int)).toNat = xs.length - 1 by omega]
          show (xs.map V.str)[xs.length - 1]? = _
          rw [List.getElem?_map, hx']
          rfl)]
  intro b q h; simpa using FB.pinF b h
  eq_refl
end
def folN (N : Addr → Option Nd) : Str ⊕ Addr → Str ⊕ Addr
  | .inl w => .inl w
  | .inr a => match N a with
    | none => .inr a
    | some n => if n.nm.isSome then .inr a else .inl "nofolder"
def filN (N : Addr → Option Nd) : Str ⊕ Addr → Str ⊕ Addr
  | .inl w => .inl w
  | .inr a => match N a with
    | none => .inr a
    | some n => if n.nm.isSome then .inl "nofile" else .inr a
def letN (N : Addr → Option Nd) (fo : Fo) (user : Str) (c : Nat) : Str ⊕ Addr → Str ⊕ Addr
  | .inl w => .inl w
  | .inr a => match N a with
    | none => .inr a
    | some n => if mayN fo user c n then .inr a else .inl "noright"
/-- what defs of the core are handed: the core, its members, its nodes -/
structure CoAt (K : PySem.W.Frag) (CF CL CK : Addr) (z : Zn) (H : Hp) (c : Addr) (co : Co) (fo : Fo) (ws : List V) (N : Addr → Option Nd) : Prop where
  nc : z.I c = none
  hc : CoreAt CK H c co
  nq : z.I co.mem = none
  hm : MemAt z H co.mem fo ws
  ht : TrAt K CF CL z H N
  n0 : ∃ n, N co.top = some n
theorem CoAt.go {K : PySem.W.Frag} {CF CL CK : Addr} {z : Zn} {H H' : Hp} {c : Addr} {co : Co} {fo : Fo} {ws : List V} {N : Addr → Option Nd} (h : CoAt K CF CL CK z H c co fo ws N) (r : z.R H H') : CoAt K CF CL CK z H' c co fo ws N := ⟨h.nc, h.hc.go h.nc r, h.nq, h.hm.go h.nq r, h.ht.go r, h.n0⟩
/-- the promise of defs (core, user, path) that look for a place -/
def spRes (K : PySem.W.Frag) (CF CL CK : Addr) (F : (Addr → Option Nd) → Fo → Str → List Str → Addr → Str ⊕ Addr) : Sp := fun vs H Q _ => ∃ (z : Zn) (c : Addr) (co : Co) (fo : Fo) (ws : List V) (N : Addr → Option Nd) (user : Str) (v : V) (xs : List Str), vs = [.ref c, .str user, v] ∧ z.R H H ∧ CoAt K CF CL CK z H c co fo ws N ∧ DU z.U H v (paS xs) ∧ ∀ H', z.R H H' → Q (outV (F N fo user xs co.top)) H'
/-- .. and of file_at, with a sign or None -/
def sgV : Option Nat → V
  | none => .non
  | some c => .str ⟨#[c]⟩
def filS (s : Option Nat) (N : Addr → Option Nd) (fo : Fo) (user : Str) (xs : List Str) (top : Addr) : Str ⊕ Addr := match s with
  | none => filN N (goN N fo user xs top)
  | some c => letN N fo user c (filN N (goN N fo user xs top))
def spFileAt (K : PySem.W.Frag) (CF CL CK : Addr) : Sp := fun vs H Q _ => ∃ (z : Zn) (c : Addr) (co : Co) (fo : Fo) (ws : List V) (N : Addr → Option Nd) (user : Str) (v : V) (xs : List Str) (s : Option Nat), vs = [.ref c, .str user, v, sgV s] ∧ z.R H H ∧ CoAt K CF CL CK z H c co fo ws N ∧ DU z.U H v (paS xs) ∧ ∀ H', z.R H H' → Q (outV (filS s N fo user xs co.top)) H'
def spOwns (K : PySem.W.Frag) (CF CL : Addr) : Sp := fun vs H Q _ => ∃ (z : Zn) (user : Str) (a : Addr) (n : Nd), vs = [.str user, .ref a] ∧ z.R H H ∧ z.I a = none ∧ NodeAt CF CL H a n ∧ ∀ H', z.R H H' → Q (.bl (decide (user = n.ow) || decide (user = "root"))) H'
theorem goN_node {N : Addr → Option Nd} {fo : Fo} {user : Str} (ok : ∀ a n x b, N a = some n → (x, b) ∈ n.kids → ∃ m, N b = some m) : ∀ (xs : List Str) (a b : Addr), (∃ n, N a = some n) → goN N fo user xs a = .inr b → ∃ n, N b = some n
  | [], a, b, h, e => by
    have e' : a = b := Sum.inr.inj e
    rw [← e']
    exact h
  | x :: r, a, b, ⟨n, hn⟩, e => by
    unfold goN at e
    rw [hn] at e
    simp only at e
    split at e
    · cases e
    · split at e
      · cases e
      · cases ek : kidOf n.kids x with
        | none => rw [ek] at e; cases e
        | some c =>
          rw [ek] at e
          exact goN_node ok r c b (ok a n x c hn (kidOf_mem ek)) e
def ofN (N : Addr → Option Nd) (fo : Fo) (user : Str) (xs : List Str) (top : Addr) : Str ⊕ Addr := letN N fo user 119 (folN N (goN N fo user xs.dropLast top))
def placeN (w0 w1 : Str) (b : Bool) (N : Addr → Option Nd) (fo : Fo) (user : Str) (xs : List Str) (top : Addr) : Str ⊕ Addr := match xs.getLast? with
  | none => .inl w0
  | some x => match ofN N fo user xs top with
    | .inl w => .inl w
    | .inr a => match N a with
      | none => .inr a
      | some n => if (kidOf n.kids x).isSome = b then .inl w1 else .inr a
theorem fol_ok {N : Addr → Option Nd} {fo : Fo} {user : Str} (ok : ∀ a n x b, N a = some n → (x, b) ∈ n.kids → ∃ m, N b = some m) {xs : List Str} {top a : Addr} (h : ∃ n, N top = some n) (e : folN N (goN N fo user xs top) = .inr a) : ∃ n d, N a = some n ∧ n.nm = some d := by
  refine' @FB.also _ _ ?_ ?_ ?_; rotate_left
  · intro wit__; simp only [↓FB.viaW wit__ (by
      clear wit__
      cases eg : goN N fo user xs top with
      | inl w => rw [eg] at e; cases e
      | inr b =>
        rw [eg] at e
        obtain ⟨n, hn⟩ := goN_node ok xs top b h eg
        unfold folN at e
        simp only [hn] at e
        split at e
        · rename_i hs
          have : b = a := Sum.inr.inj e
          subst this
          obtain ⟨d, hd⟩ := Option.isSome_iff_exists.mp hs
          exact ⟨n, d, hn, hd⟩
        · cases e)]
  intro b q h; simpa using FB.pinF b h
  eq_refl
theorem of_ok {N : Addr → Option Nd} {fo : Fo} {user : Str} (ok : ∀ a n x b, N a = some n → (x, b) ∈ n.kids → ∃ m, N b = some m) {xs : List Str} {top a : Addr} (h : ∃ n, N top = some n) (e : ofN N fo user xs top = .inr a) : ∃ n d, N a = some n ∧ n.nm = some d := by
  refine' @FB.also _ _ ?_ ?_ ?_; rotate_left
  · intro wit__; simp only [↓FB.viaW wit__ (by
      clear wit__
      unfold ofN at e
      cases ef : folN N (goN N fo user xs.dropLast top) with
      | inl w => rw [ef] at e; cases e
      | inr b =>
        rw [ef] at e
        obtain ⟨n, d, hn, hd⟩ := fol_ok ok h ef
        unfold letN at e
        simp only [hn] at e
        split at e
        · have : b = a := Sum.inr.inj e
          subst this
          exact ⟨n, d, hn, hd⟩
        · cases e)]
  intro b q h; simpa using FB.pinF b h
  eq_refl
section
variable {z : Zn} {K : PySem.W.Frag} {σ : L2.St} {H : Hp} {te : TE}
/-- a tuple of texts by its truth -/
theorem et_tupS {xs : List Str} (h : Ev z te σ H (Dd z (paS xs))) : EvT z (fun σ H Q => te σ H fun x H' => ∃ k, TruV K x H' k ∧ Q k H') σ H (· = !xs.isEmpty) := by
  refine' @FB.also _ _ ?_ ?_ ?_; rotate_left
  · intro wit__; simp only [↓FB.viaW wit__ (by
      clear wit__
      exact fun H1 e Q q =>
        h H1 e _ fun v H2 e2 f => by
          obtain ⟨p, us, rfl, np, hp, du⟩ := DU.tupAt (f H2 .refl)
          have eu := dua_strs du
          subst eu
          exact ⟨!xs.isEmpty, .inr (.inl ⟨_, .inl (.inl hp), by cases xs <;> rfl⟩), q _ H2 e2 rfl⟩)]
  intro b q h; simpa using FB.pinF b h
  eq_refl
end
end FB
set_option Elab.async false
set_option linter.all false
set_option maxRecDepth 100000
set_option maxHeartbeats 4000000
namespace FB
open PySem PySem.Spec PyProof.Rows L2 RZ
section
variable {K : PySem.W.Frag} {σ : L2.St} {H : Hp} {tv : TE} {D : Ends} {ts tu : TS} {x C dx : Addr} {fs : List (Str × V)} {f : Str} {v : V}
/-- self.f = e, e a slot, a constant; in a def that makes an object -/
theorem q_fldK (e : σ[0]? = some (some (.ref x))) (hv : ∀ Q : VK, Q v H → tv σ H Q) (hx : H x = some (.ins C dx fs)) (cl : Cls K C) (nf : NoAttr K C f) (hl : fs.length < 1000) (k : tu D σ (upd H x (.ins C dx (putF f v fs)))) : tSeq (sFld K (tVar 0) tv f) tu D σ H :=
  hv _ ⟨.ref x, e, x, C, dx, fs, rfl, hx, cl, nf, hl, k⟩
theorem s_fldK (e : σ[0]? = some (some (.ref x))) (hv : ∀ Q : VK, Q v H → tv σ H Q) (hx : H x = some (.ins C dx fs)) (cl : Cls K C) (nf : NoAttr K C f) (hl : fs.length < 1000) (k : D.nx σ (upd H x (.ins C dx (putF f v fs)))) : sFld K (tVar 0) tv f D σ H :=
  hv _ ⟨.ref x, e, x, C, dx, fs, rfl, hx, cl, nf, hl, k⟩
end
def spFInit (CF : Addr) : Sp := fun vs H Q _ => ∃ (x dx : Addr) (ow gr : Str) (rt : V), vs = [.ref x, .str ow, .str gr, rt] ∧ H x = some (.ins CF dx []) ∧ ∀ d H', H d = none → H' x = some (.ins CF dx [("kind", .str "folder"), ("owner", .str ow), ("group", .str gr), ("rights", rt), ("is_open", .bl true), ("names", .ref d), ("limit", .non)]) → H' d = some (.dK []) → (∀ p o, H p = some o → p ≠ x → H' p = some o) → Q .non H'
def spLInit (CL : Addr) : Sp := fun vs H Q _ => ∃ (x dx : Addr) (ow gr : Str) (rt : V), vs = [.ref x, .str ow, .str gr, rt] ∧ H x = some (.ins CL dx []) ∧ ∀ t H', H t = none → H' x = some (.ins CL dx [("kind", .str "file"), ("owner", .str ow), ("group", .str gr), ("rights", rt), ("is_open", .bl true), ("names", .non), ("parts", .ref t), ("size", .int 0), ("promised", .int 0), ("links", .int 1)]) → H' t = some (.tup []) → (∀ p o, H p = some o → p ≠ x → H' p = some o) → Q .non H'
def setN (N : Addr → Option Nd) (a : Addr) (n : Nd) : Addr → Option Nd := fun x => if x = a then some n else N x
theorem setN_eq {N : Addr → Option Nd} {a : Addr} {n : Nd} : setN N a n a = some n := if_pos rfl
theorem setN_ne {N : Addr → Option Nd} {a x : Addr} {n : Nd} (h : x ≠ a) : setN N a n x = N x := if_neg h
structure CoFull (K : PySem.W.Frag) (CF CL CK : Addr) (z : Zn) (H : Hp) (c : Addr) (co : Co) (fo : Fo) (ws : List V) (N : Addr → Option Nd) : Prop where
  ca : CoAt K CF CL CK z H c co fo ws N
  uc : z.U c
  un : ∀ a n, N a = some n → z.U a
  ud : ∀ a n d, N a = some n → n.nm = some d → z.U d
  inj : ∀ a b n m d, N a = some n → N b = some m → n.nm = some d → m.nm = some d → a = b
  umem : ¬ z.U co.mem
  calm : ∀ d, d = co.pr ∨ d = co.li ∨ d = co.sh → z.I d = none ∧ ¬ z.U d ∧ H d = some (.dK [])
  neF : CF ≠ CK
  neL : CL ≠ CK
section
variable {K : PySem.W.Frag} {CF CL CK : Addr} {z : Zn} {H H' : Hp} {c : Addr} {co : Co} {fo : Fo} {ws : List V} {N : Addr → Option Nd} {a : Addr} {n n' : Nd}
theorem CoFull.go (h : CoFull K CF CL CK z H c co fo ws N) (r : z.R H H') : CoFull K CF CL CK z H' c co fo ws N := by
  refine' @FB.also _ _ ?_ ?_ ?_; rotate_left
  · intro wit__; simp only [↓FB.viaW wit__ (by
      clear wit__
      exact ⟨h.ca.go r, h.uc, h.un, h.ud, h.inj, h.umem, fun d e => let ⟨h1, h2, h3⟩ := h.calm d e; ⟨h1, h2, r.kp d _ h1 h3⟩, h.neF, h.neL⟩)]
  intro b q h; simpa using FB.pinF b h
  eq_refl
theorem W_updU {p : Addr} {o : HO} (u : z.U p) : z.W H (upd H p o) := fun q o' nu e => by
  rw [upd_ne fun ea => nu (by rw [ea]; exact u)]
  exact e
theorem R_updU {p : Addr} {o o' : HO} (r : z.R H H) (hp : H p = some o') (ni : z.I p = none) : z.R (upd H p o) (upd H p o) := by
  refine' @FB.also _ _ ?_ ?_ ?_; rotate_left
  · intro wit__; simp only [↓FB.viaW wit__ (by
      clear wit__
      refine ⟨fun _ _ _ e => e, fun q φ e => ?_, fun q φ e => ?_, fun q u => ?_, fun q u => ?_⟩
      · rw [upd_ne fun ea => by rw [ea, ni] at e; cases e]
        exact r.i1 q φ e
      · rw [upd_ne fun ea => by rw [ea, ni] at e; cases e]
        exact r.i1 q φ e
      · by_cases e : q = p
        · rw [e, upd_same]; simp
        · rw [upd_ne e]; exact r.l1 q u
      · by_cases e : q = p
        · rw [e, upd_same]; simp
        · rw [upd_ne e]; exact r.l1 q u)]
  intro b q h; simpa using FB.pinF b h
  eq_refl
/-- a node's fields are put otherwise -/
theorem CoFull.setN (h : CoFull K CF CL CK z H c co fo ws N) (hn : N a = some n) (e1 : n'.nm = n.nm) (e2 : n'.kids = n.kids) (hr : RtAt K z H n') (ho : n'.op = opn n') (hpa : n'.nm = none → DU z.U H n'.parts (paD n'.ps)) : CoFull K CF CL CK z (upd H a (.ins (if n'.nm.isSome then CF else CL) n'.dx n'.flds)) c co fo ws (setN N a n') := by
  refine' @FB.also _ _ ?_ ?_ ?_; rotate_left
  · intro wit__; simp only [↓FB.viaW wit__ (by
      clear wit__
      have ua := h.un a n hn
      have w : z.W H (upd H a (.ins (if n'.nm.isSome then CF else CL) n'.dx n'.flds)) := W_updU ua
      obtain ⟨na, hna, _⟩ := h.ca.ht.at_ a n hn
      have ca : c ≠ a := fun e => by
        have h1 := h.ca.hc
        unfold CoreAt at h1
        have h2 : H a = some (.ins (if n.nm.isSome then CF else CL) n.dx n.flds) := hna
        rw [e, h2] at h1
        injection h1 with h1
        injection h1 with h1
        split at h1
        · exact h.neF h1
        · exact h.neL h1
      have dica : ∀ {d : Addr} {kvs : List (Key × V)}, H d = some (.dK kvs) → d ≠ a := fun {d kvs} hd e => by
        have h2 : H a = some (.ins (if n.nm.isSome then CF else CL) n.dx n.flds) := hna
        rw [e, h2] at hd
        cases hd
      have old : ∀ {x m}, FB.setN N a n' x = some m → ∃ m', N x = some m' ∧ m.nm = m'.nm ∧ m.kids = m'.kids := fun {x m} e => by
        by_cases ex : x = a
        · rw [ex, setN_eq] at e
          cases e
          exact ⟨n, by rw [ex]; exact hn, e1, e2⟩
        · rw [setN_ne ex] at e
          exact ⟨m, e, rfl, rfl⟩
      refine ⟨⟨h.ca.nc, ?_, h.ca.nq, ⟨?_, h.ca.hm.da.w w⟩, ⟨fun x m e => ?_, fun x m d e ed => ?_, fun x m y b e hb => ?_, fun x m e => ?_, fun x m e en => ?_⟩, ?_⟩, h.uc, fun x m e => ?_, fun x m d e ed => ?_, fun x y m m2 d ex ey e3 e4 => ?_, h.umem, fun d e => ?_, h.neF, h.neL⟩
      · unfold CoreAt
        rw [upd_ne ca]
        exact h.ca.hc
      · exact w _ _ h.umem h.ca.hm.at_
      · by_cases ex : x = a
        · rw [ex, setN_eq] at e
          cases e
          rw [ex]
          exact ⟨na, upd_same, hr.w w⟩
        · rw [setN_ne ex] at e
          obtain ⟨g1, g2, g3⟩ := h.ca.ht.at_ x m e
          refine ⟨g1, ?_, g3.w w⟩
          unfold NodeAt
          rw [upd_ne ex]
          exact g2
      · obtain ⟨m', em, k1, k2⟩ := old e
        obtain ⟨g1, g2⟩ := h.ca.ht.kd x m' d em (by rw [← k1]; exact ed)
        refine ⟨g1, ?_⟩
        rw [upd_ne (dica g2), k2]
        exact g2
      · obtain ⟨m', em, k1, k2⟩ := old e
        rw [k2] at hb
        obtain ⟨m3, h3⟩ := h.ca.ht.ok x m' y b em hb
        by_cases eb : b = a
        · exact ⟨n', by rw [eb]; exact setN_eq⟩
        · exact ⟨m3, by rw [setN_ne eb]; exact h3⟩
      · by_cases ex : x = a
        · rw [ex, setN_eq] at e
          cases e
          exact ho
        · rw [setN_ne ex] at e
          exact h.ca.ht.op x m e
      · by_cases ex : x = a
        · rw [ex, setN_eq] at e
          cases e
          exact (hpa en).w w
        · rw [setN_ne ex] at e
          exact (h.ca.ht.pa x m e en).w w
      · obtain ⟨m, hm⟩ := h.ca.n0
        by_cases et : co.top = a
        · exact ⟨n', by rw [et]; exact setN_eq⟩
        · exact ⟨m, by rw [setN_ne et]; exact hm⟩
      · obtain ⟨m', em, _⟩ := old e
        exact h.un x m' em
      · obtain ⟨m', em, k1, _⟩ := old e
        exact h.ud x m' d em (by rw [← k1]; exact ed)
      · obtain ⟨m', em, k1, _⟩ := old ex
        obtain ⟨m3, em3, k3, _⟩ := old ey
        exact h.inj x y m' m3 d em em3 (by rw [← k1]; exact e3) (by rw [← k3]; exact e4)
      · obtain ⟨g1, g2, g3⟩ := h.calm d e
        exact ⟨g1, g2, w _ _ g2 g3⟩)]
  intro b q h; simpa using FB.pinF b h
  eq_refl
end
end FB
namespace FB
open PySem PySem.Spec PyProof.Rows L2 RZ
def Zn.gr (z : Zn) (S : Addr → Prop) : Zn := ⟨z.I, fun a => z.U a ∨ S a, fun a h => .inl (z.cov a h)⟩
/-- from one moment of the tree to a later one; S is what may change -/
structure Step (S : Addr → Prop) (z : Zn) (H : Hp) (z' : Zn) (H' : Hp) : Prop where
  I : z'.I = z.I
  U : ∀ p, z'.U p → z.U p ∨ H p = none
  U2 : ∀ p, z.U p → z'.U p
  kp : ∀ p o, z.I p = none → ¬ S p → H p = some o → H' p = some o
  su : ∀ p, S p → z.U p
  r : z'.R H' H'
theorem Zn.iN {z : Zn} {p : Addr} (n : ¬ z.U p) : z.I p = none := by
  refine' @FB.also _ _ ?_ ?_ ?_; rotate_left
  · intro wit__; simp only [↓FB.viaW wit__ (by
      clear wit__
      cases e : z.I p with
      | none => rfl
      | some φ => exact absurd (z.cov p (by rw [e]; simp)) n)]
  intro b q h; simpa using FB.pinF b h
  eq_refl
theorem Step.w {S : Addr → Prop} {z z' : Zn} {H H' : Hp} (s : Step S z H z' H') : z.W H H' := fun p o n e => s.kp p o (Zn.iN n) (fun q => n (s.su p q)) e
theorem Step.du {S : Addr → Prop} {z z' : Zn} {H H' : Hp} (s : Step S z H z' H') {v : V} {d : PyData} (h : DU z.U H v d) : DU z'.U H' v d := h.go fun a o n e => ⟨fun u => (s.U a u).elim n fun q => (by rw [q] at e; cases e), s.w a o n e⟩
theorem Step.dua {S : Addr → Prop} {z z' : Zn} {H H' : Hp} (s : Step S z H z' H') {v : List V} {d : List PyData} (h : DUA z.U H v d) : DUA z'.U H' v d := h.go fun a o n e => ⟨fun u => (s.U a u).elim n fun q => (by rw [q] at e; cases e), s.w a o n e⟩
theorem Step.live {S : Addr → Prop} {z z' : Zn} {H H' : Hp} (s : Step S z H z' H') (r : z.R H H) {p : Addr} {o : HO} (e : H p = some o) : ∃ o', H' p = some o' := by
  refine' @FB.also _ _ ?_ ?_ ?_; rotate_left
  · intro wit__; simp only [↓FB.viaW wit__ (by
      clear wit__
      by_cases u : z.U p
      · exact Option.ne_none_iff_exists'.mp (s.r.l1 p (s.U2 p u))
      · exact ⟨o, s.w p o u e⟩)]
  intro b q h; simpa using FB.pinF b h
  eq_refl
theorem Step.tr {S S' : Addr → Prop} {z z' z'' : Zn} {H H' H'' : Hp} (r : z.R H H) (s : Step S z H z' H') (t : Step S' z' H' z'' H'') (hS : ∀ p, S' p → S p ∨ H p = none) : Step S z H z'' H'' := by
  refine' @FB.also _ _ ?_ ?_ ?_; rotate_left
  · intro wit__; simp only [↓FB.viaW wit__ (by
      clear wit__
      exact ⟨t.I.trans s.I, fun p u => (t.U p u).elim (s.U p) fun q => .inr (by
          cases e : H p with
          | none => rfl
          | some o =>
            obtain ⟨o', e'⟩ := s.live r e
            rw [e'] at q
            cases q), fun p u => t.U2 p (s.U2 p u), fun p o i n e => t.kp p o (by rw [s.I]; exact i) (fun q => (hS p q).elim n fun q => by rw [q] at e; cases e) (s.kp p o i n e), s.su, t.r⟩)]
  intro b q h; simpa using FB.pinF b h
  eq_refl
theorem Step.of_R {S : Addr → Prop} {z : Zn} {H H' : Hp} (hs : ∀ p, S p → z.U p) (r : z.R H H') : Step S z H z H' := ⟨rfl, fun _ u => .inl u, fun _ u => u, fun p o i _ e => r.kp p o i e, hs, r.dr⟩
/-- what is a tree's own: its core, its nodes, the dicts of its folders -/
def ownP (c : Addr) (N : Addr → Option Nd) : Addr → Prop := fun p => p = c ∨ (∃ n, N p = some n) ∨ ∃ a n, N a = some n ∧ n.nm = some p
section
variable {K : PySem.W.Frag} {CF CL CK : Addr} {z z' : Zn} {H H' : Hp} {c : Addr} {co : Co} {fo : Fo} {ws : List V} {N : Addr → Option Nd} {a b d : Addr} {n n' : Nd}
theorem CoFull.su (h : CoFull K CF CL CK z H c co fo ws N) : ∀ p, ownP c N p → z.U p := fun p q => by
  rcases q with rfl | ⟨n, e⟩ | ⟨a, n, e, e2⟩
  · exact h.uc
  · exact h.un p n e
  · exact h.ud a n p e e2
theorem Step.upd {S : Addr → Prop} {p : Addr} {o o' : HO} (r : z.R H H) (hs : ∀ p, S p → z.U p) (sp : S p) (hp : H p = some o') (ni : z.I p = none) : Step S z H z (upd H p o) := by
  refine' @FB.also _ _ ?_ ?_ ?_; rotate_left
  · intro wit__; simp only [↓FB.viaW wit__ (by
      clear wit__
      exact ⟨rfl, fun _ u => .inl u, fun _ u => u, fun q o' _ n e => by
        rw [upd_ne fun ea => n (by rw [ea]; exact sp)]
        exact e, hs, R_updU r hp ni⟩)]
  intro b q h; simpa using FB.pinF b h
  eq_refl
/-- the names of a folder are others -/
theorem CoFull.setKids (h : CoFull K CF CL CK z H c co fo ws N) (hn : N a = some n) (hd : n.nm = some d) (kids : List (Str × Addr)) (hk : ∀ x b, (x, b) ∈ kids → ∃ m, N b = some m) : CoFull K CF CL CK z (upd H d (.dK (kidsK kids))) c co fo ws (FB.setN N a { n with kids := kids }) := by
  refine' @FB.also _ _ ?_ ?_ ?_; rotate_left
  · intro wit__; simp only [↓FB.viaW wit__ (by
      clear wit__
      have ud := h.ud a n d hn hd
      have w : z.W H (upd H d (.dK (kidsK kids))) := W_updU ud
      obtain ⟨na, hna, hrt⟩ := h.ca.ht.at_ a n hn
      obtain ⟨nd, hdd⟩ := h.ca.ht.kd a n d hn hd
      have ins : ∀ {x : Addr} {C dx : Addr} {fs : List (Str × V)}, H x = some (.ins C dx fs) → x ≠ d := fun {x C dx fs} hx e => by
        rw [e, hdd] at hx
        cases hx
      have old : ∀ {x m}, FB.setN N a { n with kids := kids } x = some m → ∃ m', N x = some m' ∧ m.nm = m'.nm ∧ m.flds = m'.flds ∧ m.dx = m'.dx ∧ (x = a ∨ m = m') := fun {x m} e => by
        by_cases ex : x = a
        · rw [ex, setN_eq] at e
          cases e
          exact ⟨n, by rw [ex]; exact hn, rfl, rfl, rfl, .inl ex⟩
        · rw [setN_ne ex] at e
          exact ⟨m, e, rfl, rfl, rfl, .inr rfl⟩
      refine ⟨⟨h.ca.nc, ?_, h.ca.nq, ⟨w _ _ h.umem h.ca.hm.at_, h.ca.hm.da.w w⟩, ⟨fun x m e => ?_, fun x m d2 e ed => ?_, fun x m y b e hb => ?_, fun x m e => ?_, fun x m e en => ?_⟩, ?_⟩, h.uc, fun x m e => ?_, fun x m d2 e ed => ?_, fun x y m m2 d2 ex ey e3 e4 => ?_, h.umem, fun d2 e => ?_, h.neF, h.neL⟩
      · have h1 := h.ca.hc
        unfold CoreAt at h1 ⊢
        rw [upd_ne (ins h1)]
        exact h1
      · by_cases ex : x = a
        · rw [ex, setN_eq] at e
          cases e
          rw [ex]
          refine ⟨na, ?_, ?_⟩
          · have h1 : H a = some (.ins (if n.nm.isSome then CF else CL) n.dx n.flds) := hna
            show upd H d _ a = some (.ins (if n.nm.isSome then CF else CL) n.dx n.flds)
            rw [upd_ne (ins h1)]
            exact h1
          · exact (show RtAt K z H { n with kids := kids } from hrt).w w
        · rw [setN_ne ex] at e
          obtain ⟨g1, g2, g3⟩ := h.ca.ht.at_ x m e
          refine ⟨g1, ?_, g3.w w⟩
          unfold NodeAt at g2 ⊢
          rw [upd_ne (ins g2)]
          exact g2
      · by_cases ex : x = a
        · rw [ex, setN_eq] at e
          cases e
          have e5 : d2 = d := by
            have ed' : n.nm = some d2 := ed
            rw [hd] at ed'
            exact (Option.some.inj ed').symm
          rw [e5]
          exact ⟨nd, upd_same⟩
        · rw [setN_ne ex] at e
          obtain ⟨g1, g2⟩ := h.ca.ht.kd x m d2 e ed
          refine ⟨g1, ?_⟩
          rw [upd_ne fun e5 => ex (h.inj x a m n d2 e hn ed (by rw [e5]; exact hd))]
          exact g2
      · have fin : (∃ m, N b = some m) → ∃ m, FB.setN N a { n with kids := kids } b = some m := fun ⟨m3, h3⟩ => by
          by_cases eb : b = a
          · exact ⟨_, by rw [eb]; exact setN_eq⟩
          · exact ⟨m3, by rw [setN_ne eb]; exact h3⟩
        by_cases ex : x = a
        · rw [ex, setN_eq] at e
          cases e
          exact fin (hk y b hb)
        · rw [setN_ne ex] at e
          exact fin (h.ca.ht.ok x m y b e hb)
      · by_cases ex : x = a
        · rw [ex, setN_eq] at e
          cases e
          exact h.ca.ht.op a n hn
        · rw [setN_ne ex] at e
          exact h.ca.ht.op x m e
      · by_cases ex : x = a
        · rw [ex, setN_eq] at e
          cases e
          have en' : n.nm = none := en
          rw [hd] at en'
          cases en'
        · rw [setN_ne ex] at e
          exact (h.ca.ht.pa x m e en).w w
      · obtain ⟨m, hm⟩ := h.ca.n0
        by_cases et : co.top = a
        · exact ⟨_, by rw [et]; exact setN_eq⟩
        · exact ⟨m, by rw [setN_ne et]; exact hm⟩
      · obtain ⟨m', em, _⟩ := old e
        exact h.un x m' em
      · obtain ⟨m', em, k1, _⟩ := old e
        exact h.ud x m' d2 em (by rw [← k1]; exact ed)
      · obtain ⟨m', em, k1, _⟩ := old ex
        obtain ⟨m3, em3, k3, _⟩ := old ey
        exact h.inj x y m' m3 d2 em em3 (by rw [← k1]; exact e3) (by rw [← k3]; exact e4)
      · obtain ⟨g1, g2, g3⟩ := h.calm d2 e
        exact ⟨g1, g2, w _ _ g2 g3⟩)]
  intro b q h; simpa using FB.pinF b h
  eq_refl
/-- a node is new -/
theorem CoFull.newN (h : CoFull K CF CL CK z H c co fo ws N) (kept : ∀ p o, H p = some o → H' p = some o) (hb : H b = none) (hnb : NodeAt CF CL H' b n) (hd : ∀ d, n.nm = some d → H d = none ∧ H' d = some (.dK [])) (hk : n.kids = []) (hr : ∃ p, n.rt = .ref p ∧ ∀ H2, SqT K H2 p [.str n.r1, .str n.r2, .str n.r3]) (ho : n.op = opn n) (hpa : n.nm = none → DU (fun p => z.U p ∨ (p = b ∨ n.nm = some p)) H' n.parts (paD n.ps)) (hz : z.R H H) :
    Step (ownP c N) z H (z.gr fun p => p = b ∨ n.nm = some p) H' ∧ CoFull K CF CL CK (z.gr fun p => p = b ∨ n.nm = some p) H' c co fo ws (FB.setN N b n) := by
  refine' @FB.also _ _ ?_ ?_ ?_; rotate_left
  · intro wit__; simp only [↓FB.viaW wit__ (by
      clear wit__
      have live : ∀ {p : Addr} {o : HO}, H p = some o → ¬ (p = b ∨ n.nm = some p) := fun {p o} e q => by
        rcases q with rfl | q
        · rw [hb] at e; cases e
        · rw [(hd p q).1] at e; cases e
      have nib : z.I b = none := hz.ni hb
      have step : Step (ownP c N) z H (z.gr fun p => p = b ∨ n.nm = some p) H' := by
        refine ⟨rfl, fun p u => u.imp id fun q => ?_, fun p u => .inl u, fun p o _ _ e => kept p o e, fun p h1 => h.su p h1, ?_⟩
        · rcases q with rfl | q
          · exact hb
          · exact (hd p q).1
        · have i : ∀ (q : Addr) (φ : HO → Prop), z.I q = some φ → ∃ o, H' q = some o ∧ φ o := fun q φ e => let ⟨o, h1, h2⟩ := hz.i1 q φ e; ⟨o, kept q o h1, h2⟩
          have l : ∀ q, (z.U q ∨ (q = b ∨ n.nm = some q)) → H' q ≠ none := fun q u => by
            rcases u with u | rfl | u
            · obtain ⟨o, e⟩ := Option.ne_none_iff_exists'.mp (hz.l1 q u)
              rw [kept q o e]; simp
            · have h1 : H' q = some _ := hnb
              rw [h1]; simp
            · rw [(hd q u).2]; simp
          exact ⟨fun _ _ _ e => e, i, i, l, l⟩
      have rtO : ∀ {m : Nd}, RtAt K z H m → RtAt K (z.gr fun p => p = b ∨ n.nm = some p) H' m := fun {m} ⟨p, e, k⟩ => ⟨p, e, k.imp (fun ⟨h1, h2⟩ => ⟨fun u => u.elim h1 (live h2), kept p _ h2⟩) id⟩
      have bx : ∀ {x m}, N x = some m → x ≠ b := fun {x m} e ex => by
        have h1 : H x = some _ := (h.ca.ht.at_ x m e).2.1
        rw [ex, hb] at h1
        cases h1
      refine ⟨step, ⟨⟨h.ca.nc, kept _ _ h.ca.hc, h.ca.nq, ⟨kept _ _ h.ca.hm.at_, h.ca.hm.da.go fun p o nu e => ⟨fun u => u.elim nu (live e), kept p o e⟩⟩, ⟨fun x m e => ?_, fun x m d2 e ed => ?_, fun x m y b2 e hb2 => ?_, fun x m e => ?_, fun x m e en => ?_⟩, ?_⟩, .inl h.uc, fun x m e => ?_, fun x m d2 e ed => ?_, fun x y m m2 d2 ex ey e3 e4 => ?_, fun u => u.elim h.umem (live h.ca.hm.at_), fun d2 e => ?_, h.neF, h.neL⟩⟩
      · by_cases ex : x = b
        · rw [ex, setN_eq] at e
          cases e
          rw [ex]
          exact ⟨nib, hnb, let ⟨p, e, k⟩ := hr; ⟨p, e, .inr k⟩⟩
        · rw [setN_ne ex] at e
          obtain ⟨g1, g2, g3⟩ := h.ca.ht.at_ x m e
          exact ⟨g1, kept _ _ g2, rtO g3⟩
      · by_cases ex : x = b
        · rw [ex, setN_eq] at e
          cases e
          obtain ⟨k1, k2⟩ := hd d2 ed
          exact ⟨hz.ni k1, by rw [hk]; exact k2⟩
        · rw [setN_ne ex] at e
          obtain ⟨g1, g2⟩ := h.ca.ht.kd x m d2 e ed
          exact ⟨g1, kept _ _ g2⟩
      · by_cases ex : x = b
        · rw [ex, setN_eq] at e
          cases e
          rw [hk] at hb2
          cases hb2
        · rw [setN_ne ex] at e
          obtain ⟨m3, h3⟩ := h.ca.ht.ok x m y b2 e hb2
          exact ⟨m3, by rw [setN_ne (bx h3)]; exact h3⟩
      · by_cases ex : x = b
        · rw [ex, setN_eq] at e
          cases e
          exact ho
        · rw [setN_ne ex] at e
          exact h.ca.ht.op x m e
      · by_cases ex : x = b
        · rw [ex, setN_eq] at e
          cases e
          exact hpa en
        · rw [setN_ne ex] at e
          exact (h.ca.ht.pa x m e en).go fun p o nu e => ⟨fun u => u.elim nu (live e), kept p o e⟩
      · obtain ⟨m, hm⟩ := h.ca.n0
        exact ⟨m, by rw [setN_ne (bx hm)]; exact hm⟩
      · by_cases ex : x = b
        · exact .inr (.inl ex)
        · rw [setN_ne ex] at e
          exact .inl (h.un x m e)
      · by_cases ex : x = b
        · rw [ex, setN_eq] at e
          cases e
          exact .inr (.inr ed)
        · rw [setN_ne ex] at e
          exact .inl (h.ud x m d2 e ed)
      · have no : ∀ {x m}, N x = some m → m.nm = some d2 → n.nm = some d2 → False := fun {x m} e1 e2 e5 => by
          have h1 := (h.ca.ht.kd x m d2 e1 e2).2
          rw [(hd d2 e5).1] at h1
          cases h1
        by_cases e1 : x = b
        · by_cases e2 : y = b
          · rw [e1, e2]
          · rw [e1, setN_eq] at ex
            cases ex
            rw [setN_ne e2] at ey
            exact (no ey e4 e3).elim
        · rw [setN_ne e1] at ex
          by_cases e2 : y = b
          · rw [e2, setN_eq] at ey
            cases ey
            exact (no ex e3 e4).elim
          · rw [setN_ne e2] at ey
            exact h.inj x y m m2 d2 ex ey e3 e4
      · obtain ⟨g1, g2, g3⟩ := h.calm d2 e
        exact ⟨g1, fun u => u.elim g2 (live g3), kept _ _ g3⟩)]
  intro b q h; simpa using FB.pinF b h
  eq_refl
/-- the clock goes on -/
theorem CoFull.tick (h : CoFull K CF CL CK z H c co fo ws N) (t : Int) : CoFull K CF CL CK z (upd H c (.ins CK co.dx ({ co with clock := t } : Co).flds)) c { co with clock := t } fo ws N := by
  refine' @FB.also _ _ ?_ ?_ ?_; rotate_left
  · intro wit__; simp only [↓FB.viaW wit__ (by
      clear wit__
      have w : z.W H (upd H c (.ins CK co.dx ({ co with clock := t } : Co).flds)) := W_updU h.uc
      have hc : H c = some (.ins CK co.dx co.flds) := h.ca.hc
      have nx : ∀ {x m}, N x = some m → x ≠ c := fun {x m} e ex => by
        have h2 : H x = some (.ins (if m.nm.isSome then CF else CL) m.dx m.flds) := (h.ca.ht.at_ x m e).2.1
        rw [ex, hc] at h2
        injection h2 with h2
        injection h2 with h2
        split at h2
        · exact h.neF h2.symm
        · exact h.neL h2.symm
      refine ⟨⟨h.ca.nc, upd_same, h.ca.nq, ⟨w _ _ h.umem h.ca.hm.at_, h.ca.hm.da.w w⟩, ⟨fun x m e => ?_, fun x m d2 e ed => ?_, h.ca.ht.ok, h.ca.ht.op, fun x m e en => (h.ca.ht.pa x m e en).w w⟩, h.ca.n0⟩, h.uc, h.un, h.ud, h.inj, h.umem, fun d2 e => ?_, h.neF, h.neL⟩
      · obtain ⟨g1, g2, g3⟩ := h.ca.ht.at_ x m e
        refine ⟨g1, ?_, g3.w w⟩
        unfold NodeAt
        rw [upd_ne (nx e)]
        exact g2
      · obtain ⟨g1, g2⟩ := h.ca.ht.kd x m d2 e ed
        refine ⟨g1, ?_⟩
        rw [upd_ne fun ex => by rw [ex, hc] at g2; cases g2]
        exact g2
      · obtain ⟨g1, g2, g3⟩ := h.calm d2 e
        exact ⟨g1, g2, w _ _ g2 g3⟩)]
  intro b q h; simpa using FB.pinF b h
  eq_refl
end
end FB
namespace FB
open PySem PySem.Spec PyProof.Rows L2 RZ
theorem setN_setN {N : Addr → Option Nd} {a : Addr} {n m : Nd} : setN (setN N a n) a m = setN N a m := by
  refine' @FB.also _ _ ?_ ?_ ?_; rotate_left
  · intro wit__; simp only [↓FB.viaW wit__ (by
      clear wit__
      funext x
      by_cases e : x = a
      · rw [e, setN_eq, setN_eq]
      · rw [setN_ne e, setN_ne e, setN_ne e])]
  intro b q h; simpa using FB.pinF b h
  eq_refl
end FB
set_option Elab.async false
set_option linter.all false
set_option maxRecDepth 100000
set_option maxHeartbeats 4000000
namespace FB
open PySem PySem.Spec PyProof.Rows L2 RZ
mutual
inductive DI (K : PySem.W.Frag) (U : Addr → Prop) (H : Hp) : V → PyData → Prop where
  | non : DI K U H .non .none
  | bl (b : Bool) : DI K U H (.bl b) (.bool b)
  | int (i : Int) : DI K U H (.int i) (.int i)
  | str (x : Str) : DI K U H (.str x) (.str x)
  | lst {a : Addr} {vs : List V} {ds : List PyData} : ¬ U a → H a = some (.lst vs) → DIA K U H vs ds → DI K U H (.ref a) (.list ds)
  | tup {a : Addr} {vs : List V} {ds : List PyData} : ¬ U a → H a = some (.tup vs) → DIA K U H vs ds → DI K U H (.ref a) (.tuple ds)
  | kt {a : Addr} {xs : List Str} : (∀ H', SqT K H' a (xs.map V.str)) → DI K U H (.ref a) (.tuple (xs.map .str))
inductive DIA (K : PySem.W.Frag) (U : Addr → Prop) (H : Hp) : List V → List PyData → Prop where
  | nil : DIA K U H [] []
  | cons {v : V} {d : PyData} {vs : List V} {ds : List PyData} : DI K U H v d → DIA K U H vs ds → DIA K U H (v :: vs) (d :: ds)
end
section
variable {K : PySem.W.Frag} {U U' : Addr → Prop} {H H' : Hp}
mutual
theorem DI.go (k : ∀ a o, ¬ U a → H a = some o → ¬ U' a ∧ H' a = some o) : ∀ {v : V} {d : PyData}, DI K U H v d → DI K U' H' v d
  | _, _, .non => .non
  | _, _, .bl b => .bl b
  | _, _, .int i => .int i
  | _, _, .str x => .str x
  | _, _, .lst n e t => .lst (k _ _ n e).1 (k _ _ n e).2 (DIA.go k t)
  | _, _, .tup n e t => .tup (k _ _ n e).1 (k _ _ n e).2 (DIA.go k t)
  | _, _, .kt h => .kt h
theorem DIA.go (k : ∀ a o, ¬ U a → H a = some o → ¬ U' a ∧ H' a = some o) : ∀ {vs : List V} {ds : List PyData}, DIA K U H vs ds → DIA K U' H' vs ds
  | _, _, .nil => .nil
  | _, _, .cons h t => .cons (DI.go k h) (DIA.go k t)
end
theorem dpa_strs (xs : List Str) : DpAll K H (xs.map V.str) (xs.map PyData.str) := by
  refine' @FB.also _ _ ?_ ?_ ?_; rotate_left
  · intro wit__; simp only [↓FB.viaW wit__ (by
      clear wit__
      induction xs with
      | nil => exact .nil
      | cons x r ih => exact .cons (.str x) ih)]
  intro b q h; simpa using FB.pinF b h
  eq_refl
mutual
theorem DI.dp : ∀ {v : V} {d : PyData}, DI K U H v d → Dp K H v d
  | _, _, .non => .non
  | _, _, .bl b => .bl b
  | _, _, .int i => .int i
  | _, _, .str x => .str x
  | _, _, .lst _ e t => .lst (.inl (.inl e)) (DIA.dp t)
  | _, _, .tup _ e t => .tup (.inl (.inl e)) (DIA.dp t)
  | _, _, .kt h => .tup (h H) (dpa_strs _)
theorem DIA.dp : ∀ {vs : List V} {ds : List PyData}, DIA K U H vs ds → DpAll K H vs ds
  | _, _, .nil => .nil
  | _, _, .cons h t => .cons (DI.dp h) (DIA.dp t)
end
mutual
theorem DU.di : ∀ {v : V} {d : PyData}, DU U H v d → d.hasDict = false → DI K U H v d
  | _, _, .non, _ => .non
  | _, _, .bl b, _ => .bl b
  | _, _, .int i, _ => .int i
  | _, _, .str x, _ => .str x
  | _, _, .lst n e t, h => .lst n e (DUA.di t (by simpa only [PyData.hasDict] using h))
  | _, _, .tup n e t, h => .tup n e (DUA.di t (by simpa only [PyData.hasDict] using h))
  | _, _, .dct _ _ _, h => by simp only [PyData.hasDict] at h; cases h
theorem DUA.di : ∀ {vs : List V} {ds : List PyData}, DUA U H vs ds → PyData.hasDictAll ds = false → DIA K U H vs ds
  | _, _, .nil, _ => .nil
  | _, _, .cons h t, q => by
    simp only [PyData.hasDictAll, Bool.or_eq_false_iff] at q
    exact .cons (DU.di h q.1) (DUA.di t q.2)
end
theorem DIA.len : ∀ {vs : List V} {ds : List PyData}, DIA K U H vs ds → vs.length = ds.length
  | _, _, .nil => rfl
  | _, _, .cons _ t => congrArg (· + 1) (DIA.len t)
theorem DIA.at : ∀ {vs : List V} {ds : List PyData} {j : Nat} {d : PyData}, DIA K U H vs ds → ds[j]? = some d → ∃ v, vs[j]? = some v ∧ DI K U H v d
  | _, _, 0, _, .cons h _, e => ⟨_, rfl, by
    have e' := Option.some.inj e
    rw [← e']
    exact h⟩
  | _, _, j + 1, _, .cons _ t, e => DIA.at (j := j) t e
  | _, _, _, _, .nil, e => by simp at e
end
def DK (K : PySem.W.Frag) (z : Zn) (d : PyData) : VP := fun v H => DI K z.U H v d
section
variable {K : PySem.W.Frag} {z z' : Zn} {H H' : Hp} {v : V} {d : PyData} {vs : List V} {ds : List PyData}
theorem DK.w (h : DK K z d v H) (w : z.W H H') : DK K z d v H' := DI.go (fun a o n e => ⟨n, w a o n e⟩) h
theorem DK.at (h : DK K z d v H) : Dp K H v d := DI.dp h
theorem DK.sub {D : Addr} (h : DK K (z.add D) d v H) : DK K z d v H := DI.go (fun a o n e => ⟨fun u => n (Or.inl u), e⟩) h
theorem DU.dk (h : DU z.U H v d) (nd : d.hasDict = false) : DK K z d v H := DU.di h nd
theorem dk_str {x : Str} : DK K z (.str x) (.str x) H := .str x
theorem dk_int {i : Int} : DK K z (.int i) (.int i) H := .int i
def DKA (K : PySem.W.Frag) (z : Zn) (ds : List PyData) (vs : List V) (H : Hp) : Prop := DIA K z.U H vs ds
theorem dka_nil : DKA K z [] [] H := .nil
theorem dka_cons (h : DK K z d v H) (t : DKA K z ds vs H) : DKA K z (d :: ds) (v :: vs) H := .cons h t
theorem DKA.w (h : DKA K z ds vs H) (w : z.W H H') : DKA K z ds vs H' := DIA.go (fun a o n e => ⟨n, w a o n e⟩) h
theorem dk_tup {p : Addr} (nu : ¬ z.U p) (hp : H p = some (.tup vs)) (t : DKA K z ds vs H) : DK K z (.tuple ds) (.ref p) H := .tup nu hp t
theorem dk_const {p : Addr} {xs : List Str} (h : ∀ H', SqT K H' p (xs.map V.str)) : DK K z (.tuple (xs.map .str)) (.ref p) H := .kt h
theorem Step.dk {S : Addr → Prop} (s : Step S z H z' H') (h : DK K z d v H) : DK K z' d v H' := DI.go (fun a o n e => ⟨fun u => (s.U a u).elim n fun q => (by rw [q] at e; cases e), s.w a o n e⟩) h
theorem RtAt.dk {n : Nd} (h : RtAt K z H n) : DK K z (.tuple [.str n.r1, .str n.r2, .str n.r3]) n.rt H := by
  refine' @FB.also _ _ ?_ ?_ ?_; rotate_left
  · intro wit__; simp only [↓FB.viaW wit__ (by
      clear wit__
      obtain ⟨p, e, h | h⟩ := h
      · rw [e]
        exact .tup h.1 h.2 (.cons (.str _) (.cons (.str _) (.cons (.str _) .nil)))
      · rw [e]
        exact .kt (xs := [n.r1, n.r2, n.r3]) h)]
  intro b q h; simpa using FB.pinF b h
  eq_refl
end
section
variable {z : Zn} {K : PySem.W.Frag} {σ : L2.St} {H : Hp} {te ta : TE} {tas : TA} {d : PyData} {φ : VP}
/-- a new tuple of such data -/
theorem ea_dkN : EvA z tNil σ H (fun vs H' => DKA K z [] vs H') := ea_nil.imp fun vs H' _ e => by rw [e]; exact dka_nil
theorem ea_dk {ds : List PyData} {tr : TA} (h : Ev z te σ H (DK K z d)) (hr : ∀ H1, z.R H H1 → EvA z tr σ H1 (fun vs H' => DKA K z ds vs H')) : EvA z (tCons te tr) σ H (fun vs H' => DKA K z (d :: ds) vs H') :=
  (ea_cons h fun v H1 r _ => hr H1 r).imp fun vs H' _ ⟨v, r, e, h1, h2⟩ => by rw [e]; exact dka_cons h1 h2
theorem dpa_len {H : Hp} : ∀ {vs : List V} {ds : List PyData}, DpAll K H vs ds → vs.length = ds.length
  | _, _, .nil => rfl
  | _, _, .cons _ t => congrArg (· + 1) (dpa_len t)
theorem ev_tupK {ds : List PyData} (h : EvA z tas σ H (fun vs H' => DKA K z ds vs H')) (hl : ds.length ≤ 100000) : Ev z (tTup tas) σ H (DK K z (.tuple ds)) := by
  refine' @FB.also _ _ ?_ ?_ ?_; rotate_left
  · intro wit__; simp only [↓FB.viaW wit__ (by
      clear wit__
      exact (ev_tup h fun vs H' k => by rw [DIA.len k]; exact hl).imp fun v H' _ ⟨p, ws, e, nu, hp, k⟩ => by
          rw [e]
          exact dk_tup nu hp k)]
  intro b q h; simpa using FB.pinF b h
  eq_refl
theorem ev_kS {x : Str} (h : Ev z te σ H (Is (.str x))) : Ev z te σ H (DK K z (.str x)) := h.imp fun v H' _ e => by
  rw [show v = .str x from e]
  exact dk_str
theorem ev_kI {i : Int} (h : Ev z te σ H (Is (.int i))) : Ev z te σ H (DK K z (.int i)) := h.imp fun v H' _ e => by
  rw [show v = .int i from e]
  exact dk_int
end
def noD (wd : Str) : PyData := .tuple [.str "no", .str wd]
def doneD : PyData := .tuple [.str "done"]
def toldD (d : PyData) : PyData := .tuple [.str "told", d]
def szN (n : Nd) : Int := if n.nm.isSome then (n.kids.length : Int) else n.size
def lookD (n : Nd) : PyData := .tuple [.str (kindS n), .str n.ow, .str n.gr, .tuple [.str n.r1, .str n.r2, .str n.r3], .int (szN n)]
inductive Dee where
  | make (fold : Bool) (xs : List Str)
  | strike (xs : List Str)
  | rights (xs : List Str) (o g r1 r2 r3 : Str)
  | link (xs ys : List Str)
  | move (xs ys : List Str)
  | cut (xs : List Str) (n : Int)
  | look (xs : List Str)
  | list (xs : List Str)
  | read (xs : List Str)
def Dee.word : Dee → Str
  | .make f _ => if f then "folder" else "file"
  | .strike _ => "strike"
  | .rights .. => "rights"
  | .link .. => "link"
  | .move .. => "move"
  | .cut .. => "cut"
  | .look _ => "look"
  | .list _ => "list"
  | .read _ => "read"
def Dee.path : Dee → List Str
  | .make _ xs => xs
  | .strike xs => xs
  | .rights xs .. => xs
  | .link xs _ => xs
  | .move xs _ => xs
  | .cut xs _ => xs
  | .look xs => xs
  | .list xs => xs
  | .read xs => xs
def Dee.rest : Dee → List PyData
  | .rights _ o g r1 r2 r3 => [.str o, .str g, .tuple [.str r1, .str r2, .str r3]]
  | .link _ ys => [paS ys]
  | .move _ ys => [paS ys]
  | .cut _ n => [.int n]
  | _ => []
def Dee.data (e : Dee) : PyData := .tuple (.str e.word :: paS e.path :: e.rest)
def rwT (x : Str) : Prop := x = "" ∨ x = "r" ∨ x = "w" ∨ x = "rw"
/-- a deed as a Tree is told it -/
def Dee.good : Dee → Prop
  | .rights xs o g r1 r2 r3 => PathOk xs ∧ isW o = true ∧ isW g = true ∧ rwT r1 ∧ rwT r2 ∧ rwT r3
  | .link xs ys => PathOk xs ∧ PathOk ys
  | .move xs ys => PathOk xs ∧ PathOk ys
  | .cut xs n => PathOk xs ∧ 0 ≤ n
  | e => PathOk e.path
theorem Dee.good.path {e : Dee} (h : e.good) : PathOk e.path := by
  refine' @FB.also _ _ ?_ ?_ ?_; rotate_left
  · intro wit__; simp only [↓FB.viaW wit__ (by
      clear wit__
      cases e <;> first | exact h | exact h.1)]
  intro b q h; simpa using FB.pinF b h
  eq_refl
abbrev NMap := Addr → Option Nd
def newNd (user gr : Str) (fold : Bool) (nn : Nd) : Prop := nn.ow = user ∧ nn.gr = gr ∧ nn.r1 = ("rw" : Str) ∧ nn.r2 = ("r" : Str) ∧ nn.r3 = ("r" : Str) ∧ nn.nm.isSome = fold ∧ nn.kids = [] ∧ nn.size = 0 ∧ nn.prom = 0 ∧ nn.links = 1 ∧ nn.ps = []
/-- growing names -/
def Names (kids : List (Str × Addr)) (ys : List Str) : Prop := ys.Perm (kids.map (·.1)) ∧ sortedS ys = true
def kidKind (N : NMap) (kids : List (Str × Addr)) (x : Str) : Str := match kidOf kids x with
  | none => ""
  | some b => match N b with
    | none => ""
    | some n => kindS n
def listD (N : NMap) (kids : List (Str × Addr)) (ys : List Str) : PyData := .tuple (ys.map fun x => .tuple [.str x, .str (kidKind N kids x)])
def dropKid (na : Nd) (x : Str) : Nd := { na with kids := na.kids.filter fun p => decide (p.1 ≠ x) }
def addKid (na : Nd) (x : Str) (b : Addr) : Nd := { na with kids := na.kids ++ [(x, b)] }
/-- what deeds of names, rights, looks and lists do and tell -/
inductive Res (fo : Fo) (top : Addr) (user : Str) (N : NMap) : Dee → NMap → PyData → Prop where
  | makeNo {f xs wd} : placeN "stands" "stands" true N fo user xs top = .inl wd → Res fo top user N (.make f xs) N (noD wd)
  | make {f xs a x na b nn} : placeN "stands" "stands" true N fo user xs top = .inr a → xs.getLast? = some x → N a = some na → N b = none → newNd user na.gr f nn → Res fo top user N (.make f xs) (setN (setN N b nn) a (addKid na x b)) doneD
  | strikeNo {xs wd} : placeN "top" "nothere" false N fo user xs top = .inl wd → Res fo top user N (.strike xs) N (noD wd)
  | strikeFull {xs a x na b nb} : placeN "top" "nothere" false N fo user xs top = .inr a → xs.getLast? = some x → N a = some na → kidOf na.kids x = some b → N b = some nb → nb.nm.isSome = true → nb.kids ≠ [] → Res fo top user N (.strike xs) N (noD "full")
  | strikeFold {xs a x na b nb} : placeN "top" "nothere" false N fo user xs top = .inr a → xs.getLast? = some x → N a = some na → kidOf na.kids x = some b → N b = some nb → nb.nm.isSome = true → nb.kids = [] → Res fo top user N (.strike xs) (setN N a (dropKid na x)) doneD
  | strikeFile {xs a x na b nb} : placeN "top" "nothere" false N fo user xs top = .inr a → xs.getLast? = some x → N a = some na → kidOf na.kids x = some b → N b = some nb → nb.nm = none → Res fo top user N (.strike xs) (setN (setN N b { nb with links := nb.links - 1 }) a (dropKid na x)) doneD
  | rightsNo {xs o g r1 r2 r3 wd} : goN N fo user xs top = .inl wd → Res fo top user N (.rights xs o g r1 r2 r3) N (noD wd)
  | rightsNot {xs o g r1 r2 r3 a n} : goN N fo user xs top = .inr a → N a = some n → user ≠ "root" → (user ≠ n.ow ∨ o ≠ n.ow) → Res fo top user N (.rights xs o g r1 r2 r3) N (noD "noright")
  | rights {xs o g r1 r2 r3 a n rt} : goN N fo user xs top = .inr a → N a = some n → (user = "root" ∨ (user = n.ow ∧ o = n.ow)) → Res fo top user N (.rights xs o g r1 r2 r3) (setN N a { n with ow := o, gr := g, rt := rt, op := inC 114 r1 && (inC 114 r2 && inC 114 r3), r1 := r1, r2 := r2, r3 := r3 }) doneD
  | linkNo {xs ys wd} : filN N (goN N fo user xs top) = .inl wd → Res fo top user N (.link xs ys) N (noD wd)
  | linkNot {xs ys b wd} : filN N (goN N fo user xs top) = .inr b → placeN "stands" "stands" true N fo user ys top = .inl wd → Res fo top user N (.link xs ys) N (noD wd)
  | link {xs ys b nb a x na} : filN N (goN N fo user xs top) = .inr b → N b = some nb → placeN "stands" "stands" true N fo user ys top = .inr a → ys.getLast? = some x → N a = some na → Res fo top user N (.link xs ys) (setN (setN N a (addKid na x b)) b { nb with links := nb.links + 1 }) doneD
  | lookNo {xs wd} : goN N fo user xs top = .inl wd → Res fo top user N (.look xs) N (noD wd)
  | look {xs a n} : goN N fo user xs top = .inr a → N a = some n → Res fo top user N (.look xs) N (toldD (lookD n))
  | listNo {xs wd} : goN N fo user xs top = .inl wd → Res fo top user N (.list xs) N (noD wd)
  | listNot {xs a n} : goN N fo user xs top = .inr a → N a = some n → n.nm = none → Res fo top user N (.list xs) N (noD "nofolder")
  | listRight {xs a n} : goN N fo user xs top = .inr a → N a = some n → n.nm.isSome = true → mayN fo user 114 n = false → Res fo top user N (.list xs) N (noD "noright")
  | list {xs a n ys} : goN N fo user xs top = .inr a → N a = some n → n.nm.isSome = true → mayN fo user 114 n = true → Names n.kids ys → Res fo top user N (.list xs) N (toldD (listD N n.kids ys))
  | readNo {xs wd} : goN N fo user xs top = .inl wd → Res fo top user N (.read xs) N (noD wd)
  | readNot {xs a n} : goN N fo user xs top = .inr a → N a = some n → n.nm.isSome = true → Res fo top user N (.read xs) N (noD "nofile")
  | readRight {xs a n} : goN N fo user xs top = .inr a → N a = some n → n.nm = none → mayN fo user 114 n = false → Res fo top user N (.read xs) N (noD "noright")
  | cutNo {xs n wd} : filS (some 119) N fo user xs top = .inl wd → Res fo top user N (.cut xs n) N (noD wd)
  | cutPlace {xs n b nb} : filS (some 119) N fo user xs top = .inr b → N b = some nb → nb.size < n → Res fo top user N (.cut xs n) N (noD "noplace")
  | cut {xs n b nb pv} : filS (some 119) N fo user xs top = .inr b → N b = some nb → n ≤ nb.size → Res fo top user N (.cut xs n) (setN N b { nb with parts := pv, ps := shr nb.ps n, size := n }) doneD
  | readNone {xs a n} : goN N fo user xs top = .inr a → N a = some n → n.nm = none → mayN fo user 114 n = true → n.ps = [] → Res fo top user N (.read xs) N (toldD (.tuple []))
/-- what is asked of a tree ahead of a deed -/
def Pre (fo : Fo) (top : Addr) (user : Str) (N : NMap) : Dee → Prop
  | .strike xs => ∀ a x na b nb, placeN "top" "nothere" false N fo user xs top = .inr a → xs.getLast? = some x → N a = some na → kidOf na.kids x = some b → N b = some nb → nb.nm = none ∨ nb.kids ≠ []
  | .cut _ _ => ∀ a n, N a = some n → n.ps.length ≤ 30000
  | .read _ => ∀ a n, N a = some n → n.nm = none → n.ps = []
  | _ => True
/-- a deed (core, user, deed) is done -/
def spDeed (K : PySem.W.Frag) (CF CL CK : Addr) (ok : Dee → Prop) : Sp := fun vs H Q _ => ∃ (z : Zn) (c : Addr) (co : Co) (fo : Fo) (ws : List V) (N : NMap) (user : Str) (v : V) (e : Dee), vs = [.ref c, .str user, v] ∧ z.R H H ∧ CoFull K CF CL CK z H c co fo ws N ∧ DU z.U H v e.data ∧ ok e ∧ e.good ∧ Pre fo co.top user N e ∧ (∀ a n, N a = some n → n.kids.length ≤ 1000) ∧
  ∀ z' H' N' d v', Step (ownP c N) z H z' H' → CoFull K CF CL CK z' H' c co fo ws N' → Res fo co.top user N e N' d → DK K z' d v' H' → Q v' H'
end FB
set_option Elab.async false
set_option linter.all false
set_option maxRecDepth 100000
set_option maxHeartbeats 4000000
namespace FB
open PySem PySem.Spec PyProof.Rows L2 RZ ClX
theorem pe_dead {X : Cx} {e : Expr} : PE X e (fun _ _ _ => False) := ⟨fun _ _ _ _ _ _ h => h.elim⟩
/-- a def of a class, called by the class's name -/
structure Db (K : PySem.W.Frag) (mg : Str → Option Value) (C : Addr) (x m q : Str) (st : Stmt) (ps : List Str) where
  f : Addr
  fd : FuncData
  F : Fun K m q st f fd
  g : mg x = some (.ref C)
  rd : CRead K C (.type "type")
  at_ : PySem.W.findCls K (.ref C) (.type "type") m = some (.val (.ref f))
  kp : PySem.W.keepIn K (.ref f) = true
  b : Binds K fd ps []
theorem pe_base {X : Cx} {CX : CXT} {k : Nat} {f C : Addr} {fd : FuncData} {ps : List Str} {sp : Sp} {dvs : List V} {ds : List Value} {E : XK} {x m : Str} {p pos apos : Pos} {e : Expr} {es : List Expr} {t : TA} {pl : Sem Bool}
    (hg : Gl X x) (hm : X.mg x = some (.ref C)) (r : CRead X.K C (.type "type")) (at_ : PySem.W.findCls X.K (.ref C) (.type "type") m = some (.val (.ref f))) (hk : PySem.W.keepIn X.K (.ref f) = true)
    (F : FnOk X.prog X.w X.K X.mg X.base CX k f fd ps sp) (hr : Room k X.A) (hb : Binds X.K fd ps ds) (hd : Vals dvs ds) (hx : Passes CX X E) (ha : PA X (e :: es) t)
    (hdb : (x == ("__debug__" : Str)) = false := by decide)
    (hst : starEach (e :: es) X.env = (false, eval e X.env) :: starEach es X.env := by rfl) (hpl : (backTo pos (starEach es X.env)).any (·.1) = false := by rfl)
    (ht : eval (.Call (.Attribute (.Name x p) m apos) (e :: es) [] pos) X.env = (do
      let ov ← eval (.Name x p) X.env
      standAt apos.atName
      let (f, first) ← holding [ov] (getMethod ov m pl)
      callWith pos f first (backTo pos (starEach (e :: es) X.env)) (backToKw pos (keywordEach [] X.env))) := by rfl) :
    PE X (.Call (.Attribute (.Name x p) m apos) (e :: es) [] pos) (tCall sp dvs E t) := by
  refine' @FB.also _ _ ?_ ?_ ?_; rotate_left
  · intro wit__; simp only [↓FB.viaW wit__ (by
      clear wit__
      refine ⟨fun pins s σ H Q I h => ?_⟩
      refine PySem.W.methodCall_KW (pl := pl) (thn ((pe_glob (v := .ref C) (pos := p) hg hm rfl hdb).run pins s σ H (fun v H1 => v = .ref C ∧ H1 = H) I ⟨rfl, rfl⟩) fun u s1 ⟨v, H1, I1, r1, q1⟩ => ?_) ht
      obtain ⟨rfl, rfl⟩ := q1
      cases r1
      refine PySem.W.method_cls I1.kIn r.ga (PySem.W.cls_value I1.kIn r.rd at_ rfl ?_)
      have I2 : Inv X pins σ H1 { s1 with toks := s1.toks + 1 } := I1.tok _
      refine PySem.W.callWith_K (first := []) (h₀ := X.base) I2.ok.mod.kin hk (thn (ha.run pos pins _ σ _ _ I2 h) fun us s2 ⟨vs, H2, I3, rr, q2⟩ => ⟨I3.kIn, ?_⟩) hst hpl
      exact run_fn F hr hb hd hx I3 rr q2)]
  intro b q h; simpa using FB.pinF b h
  eq_refl
theorem kids_put {kids : List (Str × Addr)} {x : Str} {b : Addr} (h : kidOf kids x = none) : putK (kidsK kids) (.inr x : Key) (.ref b) = kidsK (kids ++ [(x, b)]) := by
  refine' @FB.also _ _ ?_ ?_ ?_; rotate_left
  · intro wit__; simp only [↓FB.viaW wit__ (by
      clear wit__
      rw [putK_new _ (by rw [kids_val, h]; rfl)]
      unfold kidsK
      rw [List.map_append]
      rfl)]
  intro b q h; simpa using FB.pinF b h
  eq_refl
theorem place_ok {w0 w1 : Str} {b : Bool} {N : Addr → Option Nd} {fo : Fo} {user : Str} (ok : ∀ a n x b, N a = some n → (x, b) ∈ n.kids → ∃ m, N b = some m) {xs : List Str} {top a : Addr} (h : ∃ n, N top = some n) (e : placeN w0 w1 b N fo user xs top = .inr a) : ∃ x n d, xs.getLast? = some x ∧ N a = some n ∧ n.nm = some d ∧ ¬ (kidOf n.kids x).isSome = b := by
  refine' @FB.also _ _ ?_ ?_ ?_; rotate_left
  · intro wit__; simp only [↓FB.viaW wit__ (by
      clear wit__
      unfold placeN at e
      cases ex : xs.getLast? with
      | none => rw [ex] at e; cases e
      | some x =>
        simp only [ex] at e
        cases eo : ofN N fo user xs top with
        | inl w => rw [eo] at e; cases e
        | inr p =>
          obtain ⟨n, d, hn, hd⟩ := of_ok ok h eo
          simp only [eo, hn] at e
          split at e
          · cases e
          · rename_i hk
            have : p = a := Sum.inr.inj e
            subst this
            exact ⟨x, n, d, rfl, hn, hd, hk⟩)]
  intro b q h; simpa using FB.pinF b h
  eq_refl
theorem kids_drop (kids : List (Str × Addr)) (x : Str) : dropK (kidsK kids) (.inr x : Key) = kidsK (kids.filter fun p => decide (p.1 ≠ x)) := by
  refine' @FB.also _ _ ?_ ?_ ?_; rotate_left
  · intro wit__; simp only [↓FB.viaW wit__ (by
      clear wit__
      unfold dropK kidsK
      rw [List.filter_map]
      congr 1
      apply List.filter_congr
      intro p _
      show decide ((.inr p.1 : Key) ≠ .inr x) = decide (p.1 ≠ x)
      exact decide_eq_decide.mpr ⟨fun h e => h (by rw [e]), fun h e => h (Sum.inr.inj e)⟩)]
  intro b q h; simpa using FB.pinF b h
  eq_refl
theorem DUA.tri {U : Addr → Prop} {H : Hp} {vs : List V} {a b c : PyData} (h : DUA U H vs [a, b, c]) : ∃ v w x, vs = [v, w, x] ∧ DU U H v a ∧ DU U H w b ∧ DU U H x c := by
  refine' @FB.also _ _ ?_ ?_ ?_; rotate_left
  · intro wit__; simp only [↓FB.viaW wit__ (by
      clear wit__
      cases h with
      | cons h1 t =>
        cases t with
        | cons h2 t =>
          cases t with
          | cons h3 t =>
            cases t
            exact ⟨_, _, _, rfl, h1, h2, h3⟩)]
  intro b q h; simpa using FB.pinF b h
  eq_refl
theorem DUA.fif {U : Addr → Prop} {H : Hp} {vs : List V} {a b c d e : PyData} (h : DUA U H vs [a, b, c, d, e]) : ∃ v w x y u, vs = [v, w, x, y, u] ∧ DU U H v a ∧ DU U H w b ∧ DU U H x c ∧ DU U H y d ∧ DU U H u e := by
  refine' @FB.also _ _ ?_ ?_ ?_; rotate_left
  · intro wit__; simp only [↓FB.viaW wit__ (by
      clear wit__
      cases h with
      | cons h1 t =>
        cases t with
        | cons h2 t =>
          obtain ⟨x, y, u, rfl, h3, h4, h5⟩ := DUA.tri t
          exact ⟨_, _, x, y, u, rfl, h1, h2, h3, h4, h5⟩)]
  intro b q h; simpa using FB.pinF b h
  eq_refl
def spNo : Sp := fun _ _ _ _ => False
theorem fn_no {P : Program} {w : World} {K : PySem.W.Frag} {mg : Str → Option Value} {base : Heap} {CX : CXT} {k : Nat} {f : Addr} {fd : FuncData} {ps : List Str} : FnOk P w K mg base CX k f fd ps spNo :=
  ⟨fun _ _ _ _ h => h.elim, fun _ _ _ _ _ _ _ _ _ _ _ _ _ h => h.elim⟩
theorem DUA.two {U : Addr → Prop} {H : Hp} {vs : List V} {a b : PyData} (h : DUA U H vs [a, b]) : ∃ v w, vs = [v, w] ∧ DU U H v a ∧ DU U H w b := by
  refine' @FB.also _ _ ?_ ?_ ?_; rotate_left
  · intro wit__; simp only [↓FB.viaW wit__ (by
      clear wit__
      cases h with
      | cons h1 t => cases t with
        | cons h2 t => cases t; exact ⟨_, _, rfl, h1, h2⟩)]
  intro b q h; simpa using FB.pinF b h
  eq_refl
section
variable {z : Zn} {K : PySem.W.Frag} {σ : L2.St} {H H' : Hp} {te tv : TE} {D : Ends} {ts tu : TS} {a C dx : Addr} {fs : List (Str × V)} {f : Str} {v : V}
theorem q_un5 {i1 i2 i3 i4 i5 : Nat} {a : Addr} {v1 v2 v3 v4 v5 : V} (hR : z.R H H) (nu : ¬ z.U a) (ha : H a = some (.tup [v1, v2, v3, v4, v5])) (h : Ev z te σ H (Is (.ref a))) (k : ∀ H1, z.R H H1 → tu D (((((σ.set i1 (some v1)).set i2 (some v2)).set i3 (some v3)).set i4 (some v4)).set i5 (some v5)) H1) :
    tSeq (tAsg te (gTup K 5 (gCons (gName i1) (gCons (gName i2) (gCons (gName i3) (gCons (gName i4) (gCons (gName i5) gNil))))))) tu D σ H := by
  refine' @FB.also _ _ ?_ ?_ ?_; rotate_left
  · intro wit__; simp only [↓FB.viaW wit__ (by
      clear wit__
      exact h H hR _ fun y H1 e f => by
        have ey : y = .ref a := f H1 .refl
        subst ey
        exact ⟨a, _, rfl, .inl (.inl (e.w a _ nu ha)), rfl, v1, _, rfl, v2, _, rfl, v3, _, rfl, v4, _, rfl, v5, [], rfl, rfl, k H1 e⟩)]
  intro b q h; simpa using FB.pinF b h
  eq_refl
/-- x.f = y, both names -/
theorem q_fldVV {i j : Nat} (ex : σ[i]? = some (some (.ref a))) (ey : σ[j]? = some (some v)) (hx : H a = some (.ins C dx fs)) (cl : Cls K C) (nf : NoAttr K C f) (hl : fs.length < 1000) (k : tu D σ (upd H a (.ins C dx (putF f v fs)))) : tSeq (sFld K (tVar i) (tVar j) f) tu D σ H :=
  ⟨v, ey, .ref a, ex, a, C, dx, fs, rfl, hx, cl, nf, hl, k⟩
end
/-- f(..) alone -/
theorem q_dropX {z : Zn} {σ : L2.St} {H : Hp} {tas : TA} {D : Ends} {tu : TS} {E : XK} {sp : Sp} {dv : List V} {Φ : List V → Hp → Prop} (hR : z.R H H) (h : EvA z tas σ H Φ) (k : ∀ vs H1, z.R H H1 → Φ vs H1 → sp (vs ++ dv) H1 (fun _ H' => tu D σ H') E) : tSeq (tDrop (tCall sp dv E tas)) tu D σ H := h H hR _ fun vs H1 r f => k vs H1 r (f H1 .refl)
section
variable {z : Zn} {K : PySem.W.Frag} {σ : L2.St} {H H2 : Hp} {te tv : TE} {D : Ends} {ts tu : TS} {a C dx : Addr} {fs : List (Str × V)} {f : Str} {v : V} {φ : VP} {o0 o1 : HO}
/-- x.f = e -/
theorem s_fldE {i : Nat} (hR : z.R H H) (h : Ev z tv σ H φ) (ex : σ[i]? = some (some (.ref a))) (na : z.I a = none) (hx : H a = some (.ins C dx fs)) (cl : Cls K C) (nf : NoAttr K C f) (hl : fs.length < 1000) (k : ∀ v H1, z.R H H1 → (∀ H2, z.W H1 H2 → φ v H2) → D.nx σ (upd H1 a (.ins C dx (putF f v fs)))) : sFld K (tVar i) tv f D σ H :=
  h H hR _ fun v H1 r g => ⟨.ref a, ex, a, C, dx, fs, rfl, r.kp a _ na hx, cl, nf, hl, k v H1 r g⟩
theorem q_fldE {i : Nat} (hR : z.R H H) (h : Ev z tv σ H φ) (ex : σ[i]? = some (some (.ref a))) (na : z.I a = none) (hx : H a = some (.ins C dx fs)) (cl : Cls K C) (nf : NoAttr K C f) (hl : fs.length < 1000) (k : ∀ v H1, z.R H H1 → (∀ H2, z.W H1 H2 → φ v H2) → tu D σ (upd H1 a (.ins C dx (putF f v fs)))) : tSeq (sFld K (tVar i) tv f) tu D σ H :=
  h H hR _ fun v H1 r g => ⟨.ref a, ex, a, C, dx, fs, rfl, r.kp a _ na hx, cl, nf, hl, k v H1 r g⟩
/-- what was put otherwise at one place, put back -/
theorem R_shadow (r : z.R (upd H a o1) H2) (ha : H a = some o0) (na : z.I a = none) (hz : z.R H H) : z.R H (upd H2 a o0) := by
  refine' @FB.also _ _ ?_ ?_ ?_; rotate_left
  · intro wit__; simp only [↓FB.viaW wit__ (by
      clear wit__
      refine ⟨fun q o i e => ?_, hz.i1, fun q φ e => ?_, hz.l1, fun q u => ?_⟩
      · by_cases h : q = a
        · rw [h, upd_same]
          rw [h, ha] at e
          exact e
        · rw [upd_ne h]
          exact r.kp q o i (by rw [upd_ne h]; exact e)
      · rw [upd_ne fun h => by rw [h, na] at e; cases e]
        exact r.i2 q φ e
      · by_cases h : q = a
        · rw [h, upd_same]; simp
        · rw [upd_ne h]; exact r.l2 q u)]
  intro b q h; simpa using FB.pinF b h
  eq_refl
/-- a dict that holds nothing, by its truth -/
theorem et_dic0 {d : Addr} (nd : z.I d = none) (hd : H d = some (.dK [])) (h : Ev z te σ H (Is (.ref d))) : EvT z (fun σ H Q => te σ H fun x H' => ∃ k, TruV K x H' k ∧ Q k H') σ H (· = false) := by
  refine' @FB.also _ _ ?_ ?_ ?_; rotate_left
  · intro wit__; simp only [↓FB.viaW wit__ (by
      clear wit__
      exact fun H1 e Q q =>
        h H1 e _ fun v H2 e2 f => by
          have ev : v = .ref d := f H2 .refl
          subst ev
          exact ⟨false, .inr (.inr ⟨[], (e.tr e2).kp d _ nd hd, rfl⟩), q _ H2 e2 rfl⟩)]
  intro b q h; simpa using FB.pinF b h
  eq_refl
end
/-- the room suffices where nothing is bounded -/
def spRoomT (K : PySem.W.Frag) (CF CL CK : Addr) : Sp := fun vs H Q _ => ∃ (z : Zn) (c : Addr) (co : Co) (fo : Fo) (ws : List V) (N : NMap), vs = [.ref c] ∧ z.R H H ∧ CoFull K CF CL CK z H c co fo ws N ∧ ∀ H', z.R H H' → Q (.bl true) H'
/-- other rights are given to a node -/
def spGive (K : PySem.W.Frag) (CF CL CK : Addr) : Sp := fun vs H Q _ => ∃ (z : Zn) (c : Addr) (co : Co) (fo : Fo) (ws : List V) (N : NMap) (a : Addr) (n : Nd) (v : V) (r1 r2 r3 : Str), vs = [.ref a, v] ∧ z.R H H ∧ CoFull K CF CL CK z H c co fo ws N ∧ N a = some n ∧ DU z.U H v (.tuple [.str r1, .str r2, .str r3]) ∧
  ∀ H' rt, Step (ownP c N) z H z H' → CoFull K CF CL CK z H' c co fo ws (setN N a { n with rt := rt, op := inC 114 r1 && (inC 114 r2 && inC 114 r3), r1 := r1, r2 := r2, r3 := r3 }) → Q .non H'
end FB
set_option Elab.async false
set_option linter.all false
set_option maxRecDepth 100000
set_option maxHeartbeats 4000000
namespace FB
open PySem PySem.Spec PyProof.Rows L2 RZ
/-- texts in order -/
def srt (xs : List Str) : List Str := xs.mergeSort fun a b => !ltS b a
theorem pw_rising : ∀ {p : Str} {l : List Str}, (p :: l).Pairwise (fun a b => ltS b a = false) → risingS p l = true
  | _, [], _ => rfl
  | p, q :: l, h => by
    have h1 := List.pairwise_cons.mp h
    have h2 := h1.1 q List.mem_cons_self
    have h3 : ltCps q.cps.toList p.cps.toList = false := by
      unfold ltS at h2
      rw [ltCps_eq]
      exact h2
    show (!(ltCps q.cps.toList p.cps.toList) && risingS q l) = true
    rw [h3, pw_rising h1.2]
    rfl
theorem pw_sorted : ∀ {l : List Str}, l.Pairwise (fun a b => ltS b a = false) → sortedS l = true
  | [], _ => rfl
  | _ :: _, h => pw_rising h
theorem ltS_tot (a b : Str) : (!ltS b a || !ltS a b) = true := by
  refine' @FB.also _ _ ?_ ?_ ?_; rotate_left
  · intro wit__; simp only [↓FB.viaW wit__ (by
      clear wit__
      cases h1 : ltS b a with
      | false => rfl
      | true =>
        cases h2 : ltS a b with
        | false => rfl
        | true => exact absurd (ltS_trans h1 h2) (by rw [ltS_irr]; decide))]
  intro b q h; simpa using FB.pinF b h
  eq_refl
theorem leS_trans {a b c : Str} (h1 : ltS b a = false) (h2 : ltS c b = false) : ltS c a = false := by
  refine' @FB.also _ _ ?_ ?_ ?_; rotate_left
  · intro wit__; simp only [↓FB.viaW wit__ (by
      clear wit__
      cases h : ltS c a with
      | false => rfl
      | true =>
        -- c < a, not b < a, not c < b
        cases h3 : ltS a b with
        | true => exact absurd (ltS_trans h h3) (by rw [h2]; decide)
        | false =>
          have e : a = b := str_eq h3 h1
          rw [e, h2] at h
          cases h)]
  intro b q h; simpa using FB.pinF b h
  eq_refl
theorem srt_perm (xs : List Str) : (srt xs).Perm xs := List.mergeSort_perm _ _
theorem srt_sorted (xs : List Str) : sortedS (srt xs) = true := by
  refine' @FB.also _ _ ?_ ?_ ?_; rotate_left
  · intro wit__; simp only [↓FB.viaW wit__ (by
      clear wit__
      have h := List.pairwise_mergeSort (le := fun a b : Str => !ltS b a) (fun a b c h1 h2 => by
        rw [Bool.not_eq_true'] at h1 h2 ⊢
        exact leS_trans h1 h2) (fun a b => ltS_tot a b) xs
      exact pw_sorted (h.imp fun h => by rwa [Bool.not_eq_true'] at h))]
  intro b q h; simpa using FB.pinF b h
  eq_refl
theorem srt_uniq {xs ys : List Str} (hp : ys.Perm xs) (hs : sortedS ys = true) : ys = srt xs := by
  refine' @FB.also _ _ ?_ ?_ ?_; rotate_left
  · intro wit__; simp only [↓FB.viaW wit__ (by
      clear wit__
      exact List.Perm.eq_of_pairwise (le := fun a b => ltS b a = false) (fun a b _ _ h1 h2 => str_eq h2 h1) (sorted_pw hs) (sorted_pw (srt_sorted xs)) (hp.trans (srt_perm xs).symm))]
  intro b q h; simpa using FB.pinF b h
  eq_refl
def rSortD : List V → Hp → VK → Prop := fun xs H Q => ∃ (a : Addr) (kvs : List (Key × V)) (ks : List Str), xs = [.ref a] ∧ Rd H a (.dK kvs) ∧ kvs.map (·.1) = ks.map Sum.inr ∧ ks.length < 64 ∧ ∀ ys p, ys.Perm ks → sortedS ys = true → H p = none → Q (.ref p) (upd H p (.lst (ys.map V.str)))
theorem k_sortedD {X : Cx} (hc : X.calm = true := by rfl) : CallR X (.builtin "sorted") rSortD := call_sortedD hc
section
variable {z : Zn} {K : PySem.W.Frag} {σ : L2.St} {H : Hp} {te ta td : TE} {d : Addr} {kvs : List (Key × V)} {ks : List Str}
theorem ev_sortedD (nd : z.I d = none) (hd : H d = some (.dK kvs)) (hk : kvs.map (·.1) = ks.map Sum.inr) (h64 : ks.length < 64) (h : Ev z te σ H (Is (.ref d))) : Ev z (tCB rSortD (tCons te tNil)) σ H (Lst z fun ws _ => ws = (srt ks).map V.str) := by
  refine' @FB.also _ _ ?_ ?_ ?_; rotate_left
  · intro wit__; simp only [↓FB.viaW wit__ (by
      clear wit__
      exact fun H1 e Q q =>
        h H1 e _ fun v H2 e2 f => by
          have ev : v = .ref d := f H2 .refl
          subst ev
          refine ⟨d, kvs, ks, rfl, .inl ((e.tr e2).kp d _ nd hd), hk, h64, fun ys p hp hs hn => ?_⟩
          rw [srt_uniq hp hs]
          exact q _ _ (e2.tr (e2.dr.new hn)) fun H3 w => ⟨p, _, rfl, e2.dr.nu hn, w p _ (e2.dr.nu hn) upd_same, rfl⟩)]
  intro b q h; simpa using FB.pinF b h
  eq_refl
theorem kids_keys (kids : List (Str × Addr)) : (kidsK kids).map (·.1) = (kids.map (·.1)).map Sum.inr := by
  refine' @FB.also _ _ ?_ ?_ ?_; rotate_left
  · intro wit__; simp only [↓FB.viaW wit__ (by
      clear wit__
      unfold kidsK
      rw [List.map_map, List.map_map]
      rfl)]
  intro b q h; simpa using FB.pinF b h
  eq_refl
/-- tuple(xs), xs a new list of data -/
theorem ev_tupleK {ds : List PyData} (h : Ev z te σ H (Lst z fun ws H' => DKA K z ds ws H')) : Ev z (tCB (fun xs H Q => ∃ p ys, xs = [.ref p] ∧ ((SqL K H p ys ∧ ∀ l, H l = none → Q (.ref l) (upd H l (.tup ys))) ∨ (SqT K H p ys ∧ Q (.ref p) H))) (tCons te tNil)) σ H (DK K z (.tuple ds)) := by
  refine' @FB.also _ _ ?_ ?_ ?_; rotate_left
  · intro wit__; simp only [↓FB.viaW wit__ (by
      clear wit__
      exact fun H1 e Q q =>
        h H1 e _ fun v H2 e2 f => by
          obtain ⟨p, ws, rfl, nu, hp, k⟩ := f H2 .refl
          exact ⟨p, ws, rfl, .inl ⟨.inl (.inl hp), fun l hl => q _ _ (e2.tr (e2.dr.new hl)) fun H3 w => dk_tup (e2.dr.nu hl) (w l _ (e2.dr.nu hl) upd_same) (k.w ((e2.dr.new hl).w.tr w))⟩⟩)]
  intro b q h; simpa using FB.pinF b h
  eq_refl
theorem dka_of : ∀ {ws : List V} {ds : List PyData}, ws.length = ds.length → (∀ (i : Nat) (w : V), ws[i]? = some w → ∃ d, ds[i]? = some d ∧ DK K z d w H) → DKA K z ds ws H
  | [], [], _, _ => .nil
  | w :: ws, d :: ds, hl, h => by
    obtain ⟨d', e, k⟩ := h 0 w rfl
    have e' : d = d' := Option.some.inj e
    rw [e']
    exact .cons k (dka_of (Nat.succ.inj hl) fun i w hw => h (i + 1) w hw)
  | [], _ :: _, hl, _ => by cases hl
  | _ :: _, [], hl, _ => by cases hl
end
/-- the names of a folder in order -/
def namesN (n : Nd) : List Str := srt (n.kids.map (·.1))
theorem names_ok (n : Nd) : Names n.kids (namesN n) := ⟨srt_perm _, srt_sorted _⟩
/-- what is told of a node: the raw answer -/
inductive TO (fo : Fo) (user : Str) (N : NMap) : V → Nd → PyData → Prop where
  | nofolder {n} : n.nm = none → TO fo user N (.str "list") n (noD "nofolder")
  | nofile {n} : n.nm.isSome = true → TO fo user N (.str "read") n (noD "nofile")
  | noright {wv n} : ¬ (n.nm = none ∧ wv = .str "list") → ¬ (n.nm.isSome = true ∧ wv = .str "read") → mayN fo user 114 n = false → TO fo user N wv n (noD "noright")
  | cells {wv n} : n.nm = none → wv ≠ .str "list" → mayN fo user 114 n = true → TO fo user N wv n (.tuple [.str "cells", paD n.ps])
  | list {wv n} : n.nm.isSome = true → wv ≠ .str "read" → mayN fo user 114 n = true → TO fo user N wv n (toldD (listD N n.kids (namesN n)))
def spToldOf (K : PySem.W.Frag) (CF CL CK : Addr) : Sp := fun vs H Q _ => ∃ (z : Zn) (c : Addr) (co : Co) (fo : Fo) (ws : List V) (N : NMap) (user : Str) (a : Addr) (n : Nd) (wv : V), vs = [.ref c, .str user, .ref a, wv] ∧ z.R H H ∧ CoAt K CF CL CK z H c co fo ws N ∧ N a = some n ∧ (wv = .str "list" ∨ wv = .str "read" ∨ wv = .non) ∧ n.kids.length < 64 ∧ ∀ H' v d, z.R H H' → TO fo user N wv n d → DK K z d v H' → Q v H'
def spLooked (K : PySem.W.Frag) (CF CL : Addr) : Sp := fun vs H Q _ => ∃ (z : Zn) (N : NMap) (a : Addr) (n : Nd), vs = [.ref a] ∧ z.R H H ∧ TrAt K CF CL z H N ∧ N a = some n ∧ ∀ H' v, z.R H H' → DK K z (lookD n) v H' → Q v H'
def Dee.tells : Dee → Bool
  | .look _ => true
  | .list _ => true
  | .read _ => true
  | _ => false
/-- the raw answer to a deed that tells of a path -/
inductive Raw (fo : Fo) (top : Addr) (user : Str) (N : NMap) : Dee → PyData → Prop where
  | no {e wd} : e.tells = true → goN N fo user e.path top = .inl wd → Raw fo top user N e (noD wd)
  | look {xs a n} : goN N fo user xs top = .inr a → N a = some n → Raw fo top user N (.look xs) (toldD (lookD n))
  | list {xs a n d} : goN N fo user xs top = .inr a → N a = some n → TO fo user N (.str "list") n d → Raw fo top user N (.list xs) d
  | read {xs a n d} : goN N fo user xs top = .inr a → N a = some n → TO fo user N (.str "read") n d → Raw fo top user N (.read xs) d
def spTold (K : PySem.W.Frag) (CF CL CK : Addr) : Sp := fun vs H Q _ => ∃ (z : Zn) (c : Addr) (co : Co) (fo : Fo) (ws : List V) (N : NMap) (user : Str) (v : V) (e : Dee), vs = [.ref c, .str user, v] ∧ z.R H H ∧ CoAt K CF CL CK z H c co fo ws N ∧ DU z.U H v e.data ∧ e.good ∧ (∀ a n, N a = some n → n.kids.length < 64) ∧
  (e.tells = false → ∀ H', z.R H H' → Q .non H') ∧ (e.tells = true → ∀ H' v' d, z.R H H' → Raw fo co.top user N e d → DK K z d v' H' → Q v' H')
end FB
set_option Elab.async false
set_option linter.all false
set_option maxRecDepth 100000
set_option maxHeartbeats 4000000
namespace FB
open PySem PySem.Spec PyProof.Rows L2 RZ
/-- what a written dict holds, and that it is none of the model's own -/
structure KIn (K : PySem.W.Frag) (w : World) (p : Addr) (x : Str) (v : V) : Prop where
  d : KDct K w p x v
  s : (p == sysModules) = false
theorem KIn.kd {K : PySem.W.Frag} {w : World} {p : Addr} {x : Str} {v : V} (h : KIn K w p x v) : ∃ u, KD K w p x (some u) := by
  refine' @FB.also _ _ ?_ ?_ ?_; rotate_left
  · intro wit__; simp only [↓FB.viaW wit__ (by
      clear wit__
      obtain ⟨es, n, u, h1, h2, h3, h4⟩ := h.d
      exact ⟨u, h.s, es, n, h1, h2, h3⟩)]
  intro b q h; simpa using FB.pinF b h
  eq_refl
section
variable {z : Zn} {K : PySem.W.Frag} {w : World} {σ : L2.St} {H : Hp} {ta tb te : TE} {p : Addr} {x : Str} {v : V} {ds : List PyData} {d : PyData} {E : XK} {sp : Sp} {t : TA} {φ : VP} {Φ : List V → Hp → Prop}
theorem ev_inKD (k : KIn K w p x v) (h1 : Ev z ta σ H (Is (.str x))) (h2 : Ev z tb σ H (Is (.ref p))) : Ev z (tOp (rInKD K w) ta tb) σ H (Is (.bl true)) := by
  refine' @FB.also _ _ ?_ ?_ ?_; rotate_left
  · intro wit__; simp only [↓FB.viaW wit__ (by
      clear wit__
      exact ev_op2 h1 h2 fun H1 r => by
          obtain ⟨u, hu⟩ := k.kd
          exact rn_val r.dr (fun Q q => ⟨p, x, some u, rfl, rfl, hu, q⟩) fun _ _ => rfl)]
  intro b q h; simpa using FB.pinF b h
  eq_refl
theorem ev_ixKD (k : KIn K w p x v) (h1 : Ev z ta σ H (Is (.ref p))) (h2 : Ev z tb σ H (Is (.str x))) : Ev z (tOp (rIxD K w) ta tb) σ H (Is v) :=
  ev_op2 h1 h2 fun H1 r => rn_val r.dr (fun Q q => ⟨p, x, v, rfl, rfl, k.d, q⟩) fun _ _ => rfl
/-- a tuple of data by its truth -/
theorem et_tupD (h : Ev z te σ H (Dd z (.tuple ds))) : EvT z (fun σ H Q => te σ H fun x H' => ∃ k, TruV K x H' k ∧ Q k H') σ H (· = !ds.isEmpty) := by
  refine' @FB.also _ _ ?_ ?_ ?_; rotate_left
  · intro wit__; simp only [↓FB.viaW wit__ (by
      clear wit__
      exact fun H1 e Q q =>
        h H1 e _ fun v H2 e2 f => by
          obtain ⟨p, us, rfl, np, hp, du⟩ := DU.tupAt (f H2 .refl)
          exact ⟨!ds.isEmpty, .inr (.inl ⟨_, .inl (.inl hp), by cases du <;> rfl⟩), q _ H2 e2 rfl⟩)]
  intro b q h; simpa using FB.pinF b h
  eq_refl
theorem ev_callL {i : Nat} {f : Addr} (es : σ[i]? = some (some (.ref f))) (h : EvA z t σ H Φ) (hs : ∀ vs H1, z.R H H1 → Φ vs H1 → Rn z (fun Q => sp (vs ++ []) H1 Q E) H1 φ) : Ev z (tCallL i f sp [] E t) σ H φ := fun H1 e Q q =>
  ⟨es, h H1 e _ fun vs H2 e2 g => hs vs H2 (e.tr e2) (g H2 .refl) Q fun v H3 e3 fv => q v H3 (e2.tr e3) fv⟩
end
/-- a def that tells of deeds of its kind that they are such -/
def spChk (ok : Dee → Prop) : Sp := fun vs H Q _ => ∃ (z : Zn) (v : V) (e : Dee), vs = [v] ∧ z.R H H ∧ DU z.U H v e.data ∧ ok e ∧ e.good ∧ ∀ H', z.R H H' → Q (.bl true) H'
/-- what a deed leaves and tells -/
abbrev FinT (K : PySem.W.Frag) (CF CL CK : Addr) (z : Zn) (H : Hp) (c : Addr) (co co' : Co) (fo : Fo) (ws : List V) (N : NMap) (user : Str) (e : Dee) (Q : VK) : Prop := ∀ z' H' N' d v', Step (ownP c N) z H z' H' → CoFull K CF CL CK z' H' c co' fo ws N' → Res fo co.top user N e N' d → DK K z' d v' H' → Q v' H'
def spAct (K : PySem.W.Frag) (CF CL CK : Addr) (ok : Dee → Prop) : Sp := fun vs H Q _ => ∃ (z : Zn) (c : Addr) (co : Co) (fo : Fo) (ws : List V) (N : NMap) (when : Int) (user : Str) (v : V) (e : Dee), vs = [.ref c, .int when, .str user, v] ∧ z.R H H ∧ CoFull K CF CL CK z H c co fo ws N ∧ DU z.U H v e.data ∧ ok e ∧ e.good ∧ Pre fo co.top user N e ∧ (∀ a n, N a = some n → n.kids.length < 64) ∧ FinT K CF CL CK z H c co { co with clock := when } fo ws N user e Q
/-- a Tree as it stands: its core, and the cells of its pieces -/
structure TreeAt (CT : Addr) (z : Zn) (H : Hp) (t dt c pc : Addr) : Prop where
  nu : ¬ z.U t
  at_ : H t = some (.ins CT dt [("core", .ref c), ("pieces", .ref pc)])
theorem TreeAt.go {CT : Addr} {z : Zn} {H H' : Hp} {t dt c pc : Addr} (h : TreeAt CT z H t dt c pc) (w : z.W H H') : TreeAt CT z H' t dt c pc := ⟨h.nu, w _ _ h.nu h.at_⟩
theorem TreeAt.step {CT : Addr} {z z' : Zn} {S : Addr → Prop} {H H' : Hp} {t dt c pc : Addr} (h : TreeAt CT z H t dt c pc) (s : Step S z H z' H') : TreeAt CT z' H' t dt c pc := ⟨fun u => (s.U t u).elim h.nu fun q => (by rw [h.at_] at q; cases q), s.w _ _ h.nu h.at_⟩
/-- an answer without cells -/
def NoCells : PyData → Prop
  | .tuple (.str wd :: _) => wd ≠ "cells"
  | _ => False
def spWithCells (K : PySem.W.Frag) (CT : Addr) : Sp := fun vs H Q _ => ∃ (z : Zn) (t dt c pc : Addr) (v : V) (d : PyData), vs = [.ref t, v] ∧ z.R H H ∧ TreeAt CT z H t dt c pc ∧ DK K z d v H ∧ ((NoCells d ∧ ∀ H', z.R H H' → Q v H') ∨ (d = .tuple [.str "cells", .tuple []] ∧ ∀ H' v', z.R H H' → DK K z (toldD (.tuple [])) v' H' → Q v' H'))
def spWantedN : Sp := fun vs H Q _ => ∃ (z : Zn) (word : Str) (v : V), vs = [.str word, v] ∧ z.R H H ∧ word ≠ "sight" ∧ word ≠ "lease" ∧ word ≠ "read" ∧ word ≠ "old" ∧ ∀ H', z.R H H' → Q .non H'
def spReply (K : PySem.W.Frag) (CF CL CK CT : Addr) (ok : Dee → Prop) : Sp := fun vs H Q _ => ∃ (z : Zn) (t dt pc c : Addr) (co : Co) (fo : Fo) (ws : List V) (N : NMap) (when : Int) (user : Str) (v : V) (e : Dee), vs = [.ref t, .int when, .str user, v] ∧ z.R H H ∧ TreeAt CT z H t dt c pc ∧ CoFull K CF CL CK z H c co fo ws N ∧ DU z.U H v e.data ∧ ok e ∧ e.tells = false ∧ e.good ∧ Pre fo co.top user N e ∧ (∀ a n, N a = some n → n.kids.length < 64) ∧ FinT K CF CL CK z H c co { co with clock := when } fo ws N user e Q
def spDo (K : PySem.W.Frag) (CF CL CK CT : Addr) (ok : Dee → Prop) : Sp := fun vs H Q _ => ∃ (z : Zn) (t dt pc c : Addr) (co : Co) (fo : Fo) (ws : List V) (N : NMap) (when : Int) (user : Str) (v : V) (e : Dee), vs = [.ref t, .int when, .str user, v] ∧ z.R H H ∧ TreeAt CT z H t dt c pc ∧ CoFull K CF CL CK z H c co fo ws N ∧ co.clock ≤ when ∧ isW user = true ∧ DU z.U H v e.data ∧ ok e ∧ e.good ∧ Pre fo co.top user N e ∧ (∀ a n, N a = some n → n.kids.length < 64) ∧ FinT K CF CL CK z H c co { co with clock := when } fo ws N user e Q
theorem raw_ok {fo : Fo} {top : Addr} {user : Str} {N : NMap} {e : Dee} {d : PyData} (h : Raw fo top user N e d) (hp : Pre fo top user N e) : (NoCells d ∧ Res fo top user N e N d) ∨ (d = .tuple [.str "cells", .tuple []] ∧ Res fo top user N e N (toldD (.tuple []))) := by
  refine' @FB.also _ _ ?_ ?_ ?_; rotate_left
  · intro wit__; simp only [↓FB.viaW wit__ (by
      clear wit__
      have nno : ("no" : Str) ≠ "cells" := by decide +kernel
      have nto : ("told" : Str) ≠ "cells" := by decide +kernel
      cases h with
      | no et eg =>
        refine .inl ⟨nno, ?_⟩
        cases e with
        | look xs => exact .lookNo eg
        | list xs => exact .listNo eg
        | read xs => exact .readNo eg
        | _ => cases et
      | look eg hn => exact .inl ⟨nto, .look eg hn⟩
      | list eg hn t =>
        cases t with
        | nofolder h1 => exact .inl ⟨nno, .listNot eg hn h1⟩
        | noright h1 h2 h3 =>
          refine .inl ⟨nno, .listRight eg hn ?_ h3⟩
          rename_i n
          cases e : n.nm with
          | none => exact absurd ⟨e, rfl⟩ h1
          | some d => rfl
        | cells h1 h2 => exact absurd rfl h2
        | list h1 h2 h3 => exact .inl ⟨nto, .list eg hn h1 h3 (names_ok _)⟩
      | read eg hn t =>
        cases t with
        | nofile h1 => exact .inl ⟨nno, .readNot eg hn h1⟩
        | noright h1 h2 h3 =>
          refine .inl ⟨nno, .readRight eg hn ?_ h3⟩
          rename_i n
          cases e : n.nm with
          | none => rfl
          | some d => exact absurd ⟨by rw [e]; rfl, rfl⟩ h2
        | cells h1 h2 h3 =>
          have hps := hp _ _ hn h1
          refine .inr ⟨by rw [hps]; rfl, .readNone eg hn h1 h3 hps⟩
        | list h1 h2 h3 => exact absurd rfl h2)]
  intro b q h; simpa using FB.pinF b h
  eq_refl
def spGath0 (K : PySem.W.Frag) : Sp := fun vs H Q _ => ∃ (z : Zn) (v w : V), vs = [v, w] ∧ z.R H H ∧ DK K z (.tuple []) v H ∧ ∀ H' v', z.R H H' → DK K z (.tuple []) v' H' → Q v' H'
section
variable {z : Zn} {K : PySem.W.Frag} {σ : L2.St} {H : Hp} {ta tb te : TE} {ds : List PyData} {d : PyData} {j : Nat}
/-- xs[j] of told data -/
theorem ev_ixKS {x : Str} (h : Ev z ta σ H (DK K z (.tuple ds))) (h2 : ∀ H1, z.R H H1 → Ev z tb σ H1 (Is (.int (j : Int)))) (hd : ds[j]? = some (.str x)) : Ev z (tOp (rIxT K) ta tb) σ H (Is (.str x)) := by
  refine' @FB.also _ _ ?_ ?_ ?_; rotate_left
  · intro wit__; simp only [↓FB.viaW wit__ (by
      clear wit__
      exact ev_op h (fun _ H1 r _ => h2 H1 r) fun y w H1 r fy ew Q q => by
          have ew' : w = .int (j : Int) := ew
          have dp : DI K z.U H1 y (.tuple ds) := fy
          cases dp with
          | tup nu hs ha =>
            obtain ⟨v, hv, dv⟩ := ha.at hd
            have ev : v = .str x := by cases dv; rfl
            exact ⟨_, _, (j : Int), v, rfl, ew', .inl (.inl hs), atI_nat hv, q _ H1 r.dr fun _ _ => ev⟩
          | @kt a xs hk =>
            rw [List.getElem?_map] at hd
            obtain ⟨y, hy, e⟩ := Option.map_eq_some_iff.mp hd
            injection e with e
            subst e
            exact ⟨_, _, (j : Int), .str y, rfl, ew', hk H1, atI_nat (by rw [List.getElem?_map, hy]; rfl), q _ H1 r.dr fun H2 w2 => rfl⟩)]
  intro b q h; simpa using FB.pinF b h
  eq_refl
end
section
variable {z : Zn} {K : PySem.W.Frag} {σ : L2.St} {H : Hp} {ta tb te : TE} {ds : List PyData} {d : PyData} {j : Nat}
theorem ev_ixKD' (h : Ev z ta σ H (DK K z (.tuple ds))) (h2 : ∀ H1, z.R H H1 → Ev z tb σ H1 (Is (.int (j : Int)))) (hd : ds[j]? = some d) : Ev z (tOp (rIxT K) ta tb) σ H (DK K z d) := by
  refine' @FB.also _ _ ?_ ?_ ?_; rotate_left
  · intro wit__; simp only [↓FB.viaW wit__ (by
      clear wit__
      exact ev_op h (fun _ H1 r _ => h2 H1 r) fun y w H1 r fy ew Q q => by
          have ew' : w = .int (j : Int) := ew
          have dp : DI K z.U H1 y (.tuple ds) := fy
          cases dp with
          | tup nu hs ha =>
            obtain ⟨v, hv, dv⟩ := ha.at hd
            exact ⟨_, _, (j : Int), v, rfl, ew', .inl (.inl hs), atI_nat hv, q _ H1 r.dr fun H2 w2 => DK.w (z := z) dv w2⟩
          | @kt a xs hk =>
            rw [List.getElem?_map] at hd
            obtain ⟨x, hx, rfl⟩ := Option.map_eq_some_iff.mp hd
            exact ⟨_, _, (j : Int), .str x, rfl, ew', hk H1, atI_nat (by rw [List.getElem?_map, hx]; rfl), q _ H1 r.dr fun H2 w2 => .str x⟩)]
  intro b q h; simpa using FB.pinF b h
  eq_refl
end
/-- x = o.m(..) -/
theorem q_meth {z : Zn} {σ : L2.St} {H : Hp} {ta : TE} {t : TA} {C a dx : Addr} {fs : List (Str × V)} {m : Str} {sp : Sp} {dvs : List V} {E : XK} {i : Nat} {tu : TS} {D : Ends} (hR : z.R H H) (h : Ev z ta σ H (Is (.ref a))) (ha : z.I a = none) (hx : H a = some (.ins C dx fs)) (hl : fs.lookup m = none)
    (k : ∀ H1, z.R H H1 → t σ H1 fun vs H2 => sp (.ref a :: (vs ++ dvs)) H2 (fun v H3 => tu D (σ.set i (some v)) H3) E) : tSeq (tAsg (tMeth C m sp dvs E ta t) (gName i)) tu D σ H := by
  refine' @FB.also _ _ ?_ ?_ ?_; rotate_left
  · intro wit__; simp only [↓FB.viaW wit__ (by
      clear wit__
      exact h H hR _ fun x H1 r f => by
          have e : x = .ref a := f H1 .refl
          subst e
          exact ⟨a, dx, fs, rfl, r.kp a _ ha hx, hl, k H1 r⟩)]
  intro b q h; simpa using FB.pinF b h
  eq_refl
end FB
set_option Elab.async false
set_option linter.all false
set_option maxRecDepth 100000
set_option maxHeartbeats 4000000
namespace FB
open PySem PySem.Spec PyProof.Rows L2 RZ
def rowG (g : Str × List Str) : PyData := .tuple [.str g.1, .tuple (g.2.map PyData.str)]
def grpD (fo : Fo) : PyData := .tuple (fo.map rowG)
def usG (g : Str × List Str) : PyData := .tuple (g.2.map PyData.str)
section
variable {z : Zn} {K : PySem.W.Frag} {σ : L2.St} {H : Hp} {te : TE} {fo : Fo} {v : V}
theorem kvM_len : ∀ {fo : Fo} {ws : List V}, ws.length = fo.length → (kvM fo ws).length = fo.length := fun {fo ws} h => by
  unfold kvM
  rw [List.length_zipWith, h, Nat.min_self]
theorem kvM_keys : ∀ {fo : Fo} {ws : List V} {p : Key × V}, p ∈ kvM fo ws → ∃ g ∈ fo, p.1 = .inr g.1
  | [], _, _, h => by cases h
  | g :: fo, [], _, h => by cases h
  | g :: fo, w :: ws, p, h => by
    rcases List.mem_cons.mp (show p ∈ ((.inr g.1 : Key), w) :: kvM fo ws from h) with h | h
    · exact ⟨g, List.mem_cons_self, by rw [h]⟩
    · obtain ⟨g', h1, h2⟩ := kvM_keys h
      exact ⟨g', List.mem_cons_of_mem _ h1, h2⟩
theorem kvM_app : ∀ {fo : Fo} {ws : List V} {g : Str × List Str} {w : V}, ws.length = fo.length → kvM (fo ++ [g]) (ws ++ [w]) = kvM fo ws ++ [((.inr g.1 : Key), w)] := fun {fo ws g w} h => by
  unfold kvM
  rw [List.zipWith_append h.symm]
  rfl
/-- {group: users for group, users in groups} -/
theorem ev_dcM {i j : Nat} {vs : List Nat} (nd : (fo.map (·.1)).Nodup) (hl : fo.length ≤ 1000) (hv : DU z.U H v (grpD fo)) (h : Ev z te σ H (Is v)) (hij : (wipe σ vs)[i]? ≠ none ∧ (wipe σ vs)[j]? ≠ none) (hne : i ≠ j) (hw : ∀ x y, wipe (((wipe σ vs).set i (some x)).set j (some y)) vs = wipe σ vs) :
    Ev z (tDc (iTup K te) (gTup K 2 (gCons (gName i) (gCons (gName j) gNil))) tYes (tVar i) (tVar j) vs) σ H (fun q H' => ∃ D ws, q = .ref D ∧ ¬ z.U D ∧ H' D = some (.dK (kvM fo ws)) ∧ DUA z.U H' ws (fo.map usG)) := by
  refine' @FB.also _ _ ?_ ?_ ?_; rotate_left
  · intro wit__; simp only [↓FB.viaW wit__ (by
      clear wit__
      exact fun H1 e Q q => by
        refine h H1 e _ fun u H2 e2 f => ?_
        have eu : u = v := f H2 .refl
        subst eu
        have r2 := e.tr e2
        have hv2 := hv.w r2.w
        obtain ⟨p, us, rfl, np, hp, du⟩ := DU.tupAt hv2
        refine ⟨p, rfl, ⟨us, .inl (.inl hp)⟩, fun D hD => ?_⟩
        have nu : ¬ z.U D := e2.dr.nu hD
        have nI : z.I D = none := e2.dr.ni hD
        have hlen : us.length = fo.length := by rw [du.len, List.length_map]
        have big : ∀ {H' : Hp}, z.W H2 H' → DUA (z.add D).U H' us (fo.map rowG) := fun w => by
          obtain ⟨p', us', e', _, hp', du'⟩ := DU.tupAt (hv2.add (D := D) hD w)
          cases e'
          rw [w p _ np hp] at hp'
          cases hp'
          exact du'
        refine dc_tup (K := K) (xs := us) (fun n H' => z.R H2 H' ∧ ∃ ws, H' D = some (.dK (kvM (fo.take n) ws)) ∧ ws.length = n ∧ DUA (z.add D).U H' ws ((fo.take n).map usG)) ⟨e2.dr.new hD, [], by rw [upd_same]; rfl, rfl, .nil⟩ (fun n H' _ hP => .inl (.inl (hP.1.w p _ np hp))) (fun n x H' hx hP => ?_) fun H' hP => ?_
        · obtain ⟨r3, ws, hd, hwl, dw⟩ := hP
          obtain ⟨d', hd', dx⟩ := (big r3.w).at hx
          rw [List.getElem?_map] at hd'
          obtain ⟨g, hg, rfl⟩ := Option.map_eq_some_iff.mp hd'
          obtain ⟨p2, us2, rfl, np2, hp2, du2⟩ := DU.tupAt dx
          obtain ⟨v1, v2, rfl, k1, k2⟩ := DUA.two du2
          have e1 := DU.strAt k1
          subst e1
          have hn : n < fo.length := (List.getElem?_eq_some_iff.mp hg).1
          have s1 : (((wipe σ vs).set i (some (.str g.1))).set j (some v2))[i]? = some (some (.str g.1)) := by
            rw [List.getElem?_set_ne (fun e => hne e.symm)]
            have := hij.1
            rw [Ne, List.getElem?_eq_none_iff, Nat.not_le] at this
            rw [List.getElem?_set_self this]
          have s2 : (((wipe σ vs).set i (some (.str g.1))).set j (some v2))[j]? = some (some v2) := by
            have := hij.2
            rw [Ne, List.getElem?_eq_none_iff, Nat.not_le] at this
            rw [List.getElem?_set_self (by rw [List.length_set]; exact this)]
          refine ⟨p2, _, rfl, .inl (.inl hp2), rfl, .str g.1, [v2], rfl, v2, [], rfl, rfl, hw _ _, ?_⟩
          unfold tYes
          dsimp only
          rw [if_pos rfl]
          refine ⟨.str g.1, s1, v2, s2, kvM (fo.take n) ws, .inr g.1, rfl, hd, ?_, ?_⟩
          · rw [kvM_len (by rw [hwl, List.length_take]; omega), List.length_take]
            exact Nat.lt_of_le_of_lt (Nat.le_trans (Nat.min_le_right _ _) hl) (by decide)
          · have htk : fo.take (n + 1) = fo.take n ++ [g] := by
              rw [List.take_succ, hg]
              rfl
            have hab : valV (kvM (fo.take n) ws) (.inr g.1 : Key) = none := valV_absent fun hk => by
              obtain ⟨q, hq, e⟩ := List.mem_map.mp hk
              obtain ⟨g', hg', eg⟩ := kvM_keys hq
              rw [eg] at e
              have e' : g'.1 = g.1 := Sum.inr.inj e
              have nd2 : ((fo.take (n + 1)).map (·.1)).Nodup := by
                rw [List.map_take]
                exact nd.sublist (List.take_sublist _ _)
              rw [htk, List.map_append, List.nodup_append] at nd2
              exact nd2.2.2 g'.1 (List.mem_map.mpr ⟨g', hg', rfl⟩) g.1 (by simp) e'
            rw [putK_new _ hab]
            refine ⟨r3.mut hD, ws ++ [v2], ?_, by rw [List.length_append, hwl]; rfl, ?_⟩
            · rw [upd_same, htk, kvM_app (by rw [hwl, List.length_take]; omega)]
            · rw [htk, List.map_append]
              have w3 : (z.add D).W H' (upd H' D (.dK (kvM (fo.take n) ws ++ [(.inr g.1, v2)]))) := fun b o nb hb => by
                rw [upd_ne fun eb => nb (Or.inr eb)]
                exact hb
              exact (dw.w w3).app (.one (k2.w w3))
        · obtain ⟨r3, ws, hd, hwl, dw⟩ := hP
          rw [hlen, List.take_length] at hd dw
          exact q _ H' (e2.tr r3) fun H3 w3 => ⟨D, ws, rfl, nu, w3 D _ nu hd, (dw.w w3.dn).go fun b o nb hb => ⟨fun u => nb (Or.inl u), hb⟩⟩)]
  intro b q h; simpa using FB.pinF b h
  eq_refl
end
section
variable {K : PySem.W.Frag} {z z0 : Zn} {H H0 H1 H' : Hp} {σ : L2.St} {x dx C : Addr} {fs : List (Str × V)} {f : Str} {v : V} {te : TE}
/-- a zone grows by what is new -/
theorem Step.grow {T S : Addr → Prop} (hT : ∀ p, T p → z.U p) (hz : z.R H H) (kept : ∀ p o, H p = some o → H' p = some o) (hS : ∀ p, S p → H p = none ∧ H' p ≠ none) : Step T z H (z.gr S) H' := by
  refine' @FB.also _ _ ?_ ?_ ?_; rotate_left
  · intro wit__; simp only [↓FB.viaW wit__ (by
      clear wit__
      refine ⟨rfl, fun p u => u.imp id fun q => (hS p q).1, fun p u => .inl u, fun p o _ _ e => kept p o e, hT, ?_⟩
      have i : ∀ (q : Addr) (φ : HO → Prop), z.I q = some φ → ∃ o, H' q = some o ∧ φ o := fun q φ e => let ⟨o, h1, h2⟩ := hz.i1 q φ e; ⟨o, kept q o h1, h2⟩
      have l : ∀ q, (z.U q ∨ S q) → H' q ≠ none := fun q u => by
        rcases u with u | u
        · obtain ⟨o, e⟩ := Option.ne_none_iff_exists'.mp (hz.l1 q u)
          rw [kept q o e]; simp
        · exact (hS q u).2
      exact ⟨fun _ _ _ e => e, i, i, l, l⟩)]
  intro b q h; simpa using FB.pinF b h
  eq_refl
/-- what stays while only x is written -/
structure Clo (x : Addr) (Φ : Zn → Hp → Prop) : Prop where
  go : ∀ {z z' : Zn} {H H' : Hp}, Step (fun p => p = x) z H z' H' → Φ z H → Φ z' H'
theorem cl_true {x : Addr} : Clo x fun _ _ => True := ⟨fun _ _ => trivial⟩
theorem cl_and {x : Addr} {Φ Ψ : Zn → Hp → Prop} (a : Clo x Φ) (b : Clo x Ψ) : Clo x fun z H => Φ z H ∧ Ψ z H := ⟨fun s h => ⟨a.go s h.1, b.go s h.2⟩⟩
/-- an object beside x -/
def Obj (x p : Addr) (o : HO) : Zn → Hp → Prop := fun z H => z.I p = none ∧ p ≠ x ∧ H p = some o
theorem cl_obj {x p : Addr} {o : HO} : Clo x (Obj x p o) := ⟨fun s h => ⟨by rw [s.I]; exact h.1, h.2.1, s.kp p o h.1 h.2.1 h.2.2⟩⟩
/-- .. on which told values may lean -/
def ObjN (p : Addr) (o : HO) : Zn → Hp → Prop := fun z H => ¬ z.U p ∧ H p = some o
theorem cl_objN {x p : Addr} {o : HO} : Clo x (ObjN p o) := ⟨fun s h => ⟨fun u => (s.U p u).elim h.1 fun q => (by rw [h.2] at q; cases q), s.w p o h.1 h.2⟩⟩
theorem cl_dua {x : Addr} {v : List V} {d : List PyData} : Clo x fun z H => DUA z.U H v d := ⟨fun s h => s.dua h⟩
theorem cl_u {x p : Addr} : Clo x fun z _ => z.U p := ⟨fun s h => s.U2 p h⟩
/-- an object that is being made, and what else is known -/
structure InAt (z0 : Zn) (H0 : Hp) (C x dx : Addr) (Φ : Zn → Hp → Prop) (z : Zn) (H : Hp) (fs : List (Str × V)) : Prop where
  s : Step (fun p => p = x) z0 H0 z H
  hx : H x = some (.ins C dx fs)
  φ : Φ z H
variable {Φ Ψ : Zn → Hp → Prop}
theorem InAt.ux (a : InAt z0 H0 C x dx Φ z H fs) : z.U x := a.s.U2 x (a.s.su x rfl)
theorem InAt.ix (i0 : z0.I x = none) (a : InAt z0 H0 C x dx Φ z H fs) : z.I x = none := by rw [a.s.I]; exact i0
theorem InAt.to (cl : Clo x Φ) (r0 : z0.R H0 H0) (a : InAt z0 H0 C x dx Φ z H fs) {z' : Zn} (s : Step (fun p => p = x) z H z' H') (hx : H' x = some (.ins C dx fs)) : InAt z0 H0 C x dx Φ z' H' fs := ⟨a.s.tr r0 s fun p h => .inl h, hx, cl.go s a.φ⟩
theorem InAt.go (cl : Clo x Φ) (r0 : z0.R H0 H0) (i0 : z0.I x = none) (a : InAt z0 H0 C x dx Φ z H fs) (r : z.R H H1) : InAt z0 H0 C x dx Φ z H1 fs := a.to cl r0 (Step.of_R (fun p e => e ▸ a.ux) r) (r.kp x _ (a.ix i0) a.hx)
theorem InAt.put (cl : Clo x Φ) (r0 : z0.R H0 H0) (i0 : z0.I x = none) (a : InAt z0 H0 C x dx Φ z H fs) (r : z.R H H1) (f : Str) (v : V) : InAt z0 H0 C x dx Φ z (upd H1 x (.ins C dx (putF f v fs))) (putF f v fs) := by
  refine' @FB.also _ _ ?_ ?_ ?_; rotate_left
  · intro wit__; simp only [↓FB.viaW wit__ (by
      clear wit__
      have a1 := a.go cl r0 i0 r
      have s2 : Step (fun p => p = x) z H1 z (upd H1 x (.ins C dx (putF f v fs))) := Step.upd r.dr (fun p e => e ▸ a.ux) rfl a1.hx (a1.ix i0)
      exact ⟨a1.s.tr r0 s2 fun p h => .inl h, upd_same, cl.go s2 a1.φ⟩)]
  intro b q h; simpa using FB.pinF b h
  eq_refl
theorem InAt.add (a : InAt z0 H0 C x dx Φ z H fs) (h : Ψ z H) : InAt z0 H0 C x dx (fun z H => Φ z H ∧ Ψ z H) z H fs := ⟨a.s, a.hx, a.φ, h⟩
theorem ev_dnew : Ev z tDNewK σ H (fun v H' => ∃ d, v = .ref d ∧ ¬ z.U d ∧ H' d = some (.dK [])) := fun H1 e Q q => fun d hd => q _ _ (e.dr.new hd) fun H3 w => ⟨d, rfl, e.dr.nu hd, w d _ (e.dr.nu hd) upd_same⟩
end
/-- the top -/
def topNd (n : Nd) : Prop := n.ow = ("root" : Str) ∧ n.gr = ("root" : Str) ∧ n.r1 = ("rw" : Str) ∧ n.r2 = ("rw" : Str) ∧ n.r3 = ("rw" : Str) ∧ n.nm.isSome = true ∧ n.kids = [] ∧ n.ps = []
def FoOk (fo : Fo) : Prop := (fo.map (·.1)).Nodup ∧ fo.length ≤ 1000
def spCInit (K : PySem.W.Frag) (CF CL CK : Addr) : Sp := fun vs H Q _ => ∃ (z : Zn) (x dx : Addr) (v : V) (fo : Fo), vs = [.ref x, v] ∧ z.R H H ∧ z.U x ∧ z.I x = none ∧ H x = some (.ins CK dx []) ∧ DU z.U H v (grpD fo) ∧ FoOk fo ∧
  ∀ z' H' co ws b n, Step (fun p => p = x) z H z' H' → CoFull K CF CL CK z' H' x co fo ws (fun a => if a = b then some n else none) → co.clock = 0 → co.top = b → topNd n → (∀ p, ownP x (fun a => if a = b then some n else none) p → p = x ∨ H p = none) → Q .non H'
/-- a Tree's own parts made -/
def GroupsOk (fo : Fo) : Prop := isGroupsD (grpD fo) = true ∧ Bd 3 (grpD fo)
def spTInit (K : PySem.W.Frag) (CF CL CK CT : Addr) (ok : Fo → Prop) : Sp := fun vs H Q _ => ∃ (z : Zn) (t dt : Addr) (v : V) (fo : Fo), vs = [.ref t, v] ∧ z.R H H ∧ z.U t ∧ z.I t = none ∧ H t = some (.ins CT dt []) ∧ DU z.U H v (grpD fo) ∧ FoOk fo ∧ ok fo ∧
  ∀ z' H' c pc co ws b n, Step (fun p => p = t) z H z' H' → H' t = some (.ins CT dt [("core", .ref c), ("pieces", .ref pc)]) → ¬ z'.U pc → H' pc = some (.dK []) → CoFull K CF CL CK z' H' c co fo ws (fun a => if a = b then some n else none) → co.clock = 0 → co.top = b → topNd n → (∀ p, ownP c (fun a => if a = b then some n else none) p → H p = none) → Q .non H'
/-- self.f = C(..) -/
theorem q_fldMake {K : PySem.W.Frag} {ta : TE} {sp : Sp} {C : Addr} {f : Str} {E : XK} {tas : TA} {tu : TS} {D : Ends} {σ : L2.St} {H : Hp} (h : tas σ H (fun vs H1 => ∀ x dx, H1 x = none → H1 dx = none → dx ≠ x → sp (.ref x :: (vs ++ [])) (upd (upd H1 dx (.own x)) x (.ins C dx [])) (fun v H2 => v = .non ∧ ta σ H2 fun y H3 => ∃ a C' dx' fs, y = .ref a ∧ H3 a = some (.ins C' dx' fs) ∧ Cls K C' ∧ NoAttr K C' f ∧ fs.length < 1000 ∧ tu D σ (upd H3 a (.ins C' dx' (putF f (.ref x) fs)))) E)) : tSeq (sFld K ta (tMake C sp [] E tas) f) tu D σ H := h
theorem Step.rt {K : PySem.W.Frag} {S : Addr → Prop} {z z' : Zn} {H H' : Hp} {n : Nd} (s : Step S z H z' H') (h : RtAt K z H n) : RtAt K z' H' n := by
  refine' @FB.also _ _ ?_ ?_ ?_; rotate_left
  · intro wit__; simp only [↓FB.viaW wit__ (by
      clear wit__
      exact let ⟨p, e, k⟩ := h; ⟨p, e, k.imp (fun ⟨h1, h2⟩ => ⟨fun u => (s.U p u).elim h1 fun q => (by rw [h2] at q; cases q), s.w p _ h1 h2⟩) id⟩)]
  intro b q h; simpa using FB.pinF b h
  eq_refl
/-- what is done beside a tree leaves it -/
theorem CoFull.frame {K : PySem.W.Frag} {CF CL CK : Addr} {S : Addr → Prop} {z z' : Zn} {H H' : Hp} {c : Addr} {co : Co} {fo : Fo} {ws : List V} {N : NMap} (h : CoFull K CF CL CK z H c co fo ws N) (s : Step S z H z' H') (hd : ∀ p, ownP c N p → ¬ S p) : CoFull K CF CL CK z' H' c co fo ws N := by
  refine' @FB.also _ _ ?_ ?_ ?_; rotate_left
  · intro wit__; simp only [↓FB.viaW wit__ (by
      clear wit__
      have I : ∀ {p}, z.I p = none → z'.I p = none := fun e => by rw [s.I]; exact e
      have nU : ∀ {p o}, ¬ z.U p → H p = some o → ¬ z'.U p := fun {p o} n e u => (s.U p u).elim n fun q => by rw [e] at q; cases q
      refine ⟨⟨I h.ca.nc, s.kp c _ h.ca.nc (hd c (.inl rfl)) h.ca.hc, I h.ca.nq, ⟨s.w _ _ h.umem h.ca.hm.at_, s.dua h.ca.hm.da⟩, ⟨fun a n e => ?_, fun a n d e ed => ?_, h.ca.ht.ok, h.ca.ht.op, fun a n e en => s.du (h.ca.ht.pa a n e en)⟩, h.ca.n0⟩, s.U2 c h.uc, fun a n e => s.U2 a (h.un a n e), fun a n d e ed => s.U2 d (h.ud a n d e ed), h.inj, nU h.umem h.ca.hm.at_, fun d e => ?_, h.neF, h.neL⟩
      · obtain ⟨h1, h2, h3⟩ := h.ca.ht.at_ a n e
        exact ⟨I h1, s.kp a _ h1 (hd a (.inr (.inl ⟨n, e⟩))) h2, s.rt h3⟩
      · obtain ⟨h1, h2⟩ := h.ca.ht.kd a n d e ed
        exact ⟨I h1, s.kp d _ h1 (hd d (.inr (.inr ⟨a, n, e, ed⟩))) h2⟩
      · obtain ⟨h1, h2, h3⟩ := h.calm d e
        exact ⟨I h1, nU h2 h3, s.w d _ h2 h3⟩)]
  intro b q h; simpa using FB.pinF b h
  eq_refl
end FB
set_option Elab.async false
set_option linter.all false
set_option maxRecDepth 100000
set_option maxHeartbeats 4000000
namespace FB
open PySem PySem.Spec PyProof.Rows L2 RZ
structure Th where
  lo : Str
  cl : Str
  a : Str
  b : Str
  d : Str
def IsN (n : Nd) (t : Th) : Prop := n.ow = t.lo ∧ n.gr = t.cl ∧ n.r1 = t.a ∧ n.r2 = t.b ∧ n.r3 = t.d
def mayT (fo : Fo) (user : Str) (c : Nat) (t : Th) : Bool := mayB fo user c t.lo t.cl t.a t.b t.d
theorem IsN.may {n : Nd} {t : Th} {fo : Fo} {user : Str} {c : Nat} (h : IsN n t) : mayN fo user c n = mayT fo user c t := by
  refine' @FB.also _ _ ?_ ?_ ?_; rotate_left
  · intro wit__; simp only [↓FB.viaW wit__ (by
      clear wit__
      obtain ⟨h1, h2, h3, h4, h5⟩ := h
      unfold mayN mayT
      rw [h1, h2, h3, h4, h5])]
  intro b q h; simpa using FB.pinF b h
  eq_refl
theorem may_root {fo : Fo} {c : Nat} {t : Th} : mayT fo "root" c t = true := by
  refine' @FB.also _ _ ?_ ?_ ?_; rotate_left
  · intro wit__; simp only [↓FB.viaW wit__ (by
      clear wit__
      unfold mayT mayB
      rw [if_pos rfl])]
  intro b q h; simpa using FB.pinF b h
  eq_refl
structure Iv (t0 t1 : Th) (kx : List (Str × Addr)) (N : NMap) (top d f : Addr) (nt nd nf : Nd) : Prop where
  ht : N top = some nt
  tf : nt.nm.isSome = true
  tr : opn nt = true
  tk : nt.kids = [(("d" : Str), d)]
  hd : N d = some nd
  df : nd.nm.isSome = true
  dn : IsN nd t0
  dk : nd.kids = (("f" : Str), f) :: kx
  hf : N f = some nf
  ff : nf.nm = none
  fn : IsN nf t1
  fs : nf.size = 0
  all : ∀ a n, N a = some n → n.kids.length ≤ 8 ∧ n.ps = []
theorem some_ne {o : Option Addr} (h : o.isSome = true) : o ≠ none := fun e => by rw [e] at h; cases h
section
variable {t0 t1 : Th} {kx : List (Str × Addr)} {N N' : NMap} {top d f : Addr} {nt nd nf : Nd} {fo : Fo} {u : Str} {r : PyData}
theorem ff_fd : ("f" : Str) ≠ "d" := by decide +kernel
theorem ff_fg : ("f" : Str) ≠ "g" := by decide +kernel
theorem Iv.td (I : Iv t0 t1 kx N top d f nt nd nf) : top ≠ d := by
  refine' @FB.also _ _ ?_ ?_ ?_; rotate_left
  · intro wit__; simp only [↓FB.viaW wit__ (by
      clear wit__
      exact fun e => by
        have h := I.ht
        rw [e, I.hd] at h
        have h2 := Option.some.inj h
        have h3 := I.dk
        rw [h2, I.tk] at h3
        injection h3 with h3
        injection h3 with h3
        exact ff_fd h3.symm)]
  intro b q h; simpa using FB.pinF b h
  eq_refl
theorem Iv.fd (I : Iv t0 t1 kx N top d f nt nd nf) : f ≠ d := fun e => by
  have h := I.hf
  rw [e, I.hd] at h
  have h2 := Option.some.inj h
  exact some_ne I.df (by rw [h2]; exact I.ff)
theorem Iv.ft (I : Iv t0 t1 kx N top d f nt nd nf) : f ≠ top := fun e => by
  have h := I.hf
  rw [e, I.ht] at h
  have h2 := Option.some.inj h
  exact some_ne I.tf (by rw [h2]; exact I.ff)
theorem kid_hd {x : Str} {b : Addr} {k : List (Str × Addr)} : kidOf ((x, b) :: k) x = some b := by
  refine' @FB.also _ _ ?_ ?_ ?_; rotate_left
  · intro wit__; simp only [↓FB.viaW wit__ (by
      clear wit__
      unfold kidOf
      rw [List.find?_cons_of_pos (by simp)]
      rfl)]
  intro b q h; simpa using FB.pinF b h
  eq_refl
theorem kid_tl {x y : Str} {b : Addr} {k : List (Str × Addr)} (h : y ≠ x) : kidOf ((y, b) :: k) x = kidOf k x := by
  refine' @FB.also _ _ ?_ ?_ ?_; rotate_left
  · intro wit__; simp only [↓FB.viaW wit__ (by
      clear wit__
      unfold kidOf
      rw [List.find?_cons_of_neg (by simpa using h)])]
  intro b q h; simpa using FB.pinF b h
  eq_refl
theorem go1 {a : Addr} {n : Nd} {x : Str} {rs : List Str} (h : N a = some n) (hs : n.nm.isSome = true) (hm : mayN fo u 114 n = true) {b : Addr} (hk : kidOf n.kids x = some b) : goN N fo u (x :: rs) a = goN N fo u rs b := by
  refine' @FB.also _ _ ?_ ?_ ?_; rotate_left
  · intro wit__; simp only [↓FB.viaW wit__ (by
      clear wit__
      rw [goN.eq_2]
      simp only [h, if_neg (some_ne hs), hm, hk]
      rfl)]
  intro b q h; simpa using FB.pinF b h
  eq_refl
theorem go1n {a : Addr} {n : Nd} {x : Str} {rs : List Str} (h : N a = some n) (hs : n.nm.isSome = true) (hm : mayN fo u 114 n = false) : goN N fo u (x :: rs) a = .inl "noright" := by
  refine' @FB.also _ _ ?_ ?_ ?_; rotate_left
  · intro wit__; simp only [↓FB.viaW wit__ (by
      clear wit__
      rw [goN.eq_2]
      simp only [h, if_neg (some_ne hs), hm]
      rfl)]
  intro b q h; simpa using FB.pinF b h
  eq_refl
theorem Iv.go_d (I : Iv t0 t1 kx N top d f nt nd nf) : goN N fo u ["d"] top = .inr d := go1 I.ht I.tf (may_open I.tr) (by rw [I.tk]; exact kid_hd)
theorem Iv.go_df (I : Iv t0 t1 kx N top d f nt nd nf) : goN N fo u ["d", "f"] top = if mayT fo u 114 t0 = true then .inr f else .inl "noright" := by
  refine' @FB.also _ _ ?_ ?_ ?_; rotate_left
  · intro wit__; simp only [↓FB.viaW wit__ (by
      clear wit__
      rw [show goN N fo u ["d", "f"] top = goN N fo u ["f"] d from go1 I.ht I.tf (may_open I.tr) (by rw [I.tk]; exact kid_hd)]
      by_cases h : mayT fo u 114 t0 = true
      · rw [if_pos h]
        exact go1 I.hd I.df (by rw [I.dn.may]; exact h) (by rw [I.dk]; exact kid_hd)
      · rw [if_neg h]
        exact go1n I.hd I.df (by rw [I.dn.may]; simpa using h))]
  intro b q h; simpa using FB.pinF b h
  eq_refl
theorem fol_in {a : Addr} {n : Nd} (h : N a = some n) (hs : n.nm.isSome = true) : folN N (.inr a) = .inr a := by
  refine' @FB.also _ _ ?_ ?_ ?_; rotate_left
  · intro wit__; simp only [↓FB.viaW wit__ (by
      clear wit__
      unfold folN
      simp only [h, if_pos hs])]
  intro b q h; simpa using FB.pinF b h
  eq_refl
theorem fil_in {a : Addr} {n : Nd} (h : N a = some n) (hs : n.nm = none) : filN N (.inr a) = .inr a := by
  refine' @FB.also _ _ ?_ ?_ ?_; rotate_left
  · intro wit__; simp only [↓FB.viaW wit__ (by
      clear wit__
      unfold filN
      simp only [h, hs]
      rfl)]
  intro b q h; simpa using FB.pinF b h
  eq_refl
theorem let_in {a : Addr} {n : Nd} {c : Nat} (h : N a = some n) : letN N fo u c (.inr a) = if mayN fo u c n = true then .inr a else .inl "noright" := by
  refine' @FB.also _ _ ?_ ?_ ?_; rotate_left
  · intro wit__; simp only [↓FB.viaW wit__ (by
      clear wit__
      unfold letN
      simp only [h])]
  intro b q h; simpa using FB.pinF b h
  eq_refl
theorem Iv.of (I : Iv t0 t1 kx N top d f nt nd nf) {x : Str} : ofN N fo u ["d", x] top = if mayT fo u 119 t0 = true then .inr d else .inl "noright" := by
  refine' @FB.also _ _ ?_ ?_ ?_; rotate_left
  · intro wit__; simp only [↓FB.viaW wit__ (by
      clear wit__
      unfold ofN
      rw [show (["d", x] : List Str).dropLast = (["d"] : List Str) from rfl, I.go_d, fol_in I.hd I.df, let_in I.hd, I.dn.may])]
  intro b q h; simpa using FB.pinF b h
  eq_refl
theorem Iv.place (I : Iv t0 t1 kx N top d f nt nd nf) {x w0 w1 : Str} {b : Bool} (hb : (kidOf nd.kids x).isSome = !b) : placeN w0 w1 b N fo u ["d", x] top = if mayT fo u 119 t0 = true then .inr d else .inl "noright" := by
  refine' @FB.also _ _ ?_ ?_ ?_; rotate_left
  · intro wit__; simp only [↓FB.viaW wit__ (by
      clear wit__
      unfold placeN
      rw [show (["d", x] : List Str).getLast? = some x from rfl, I.of]
      by_cases h : mayT fo u 119 t0 = true
      · simp only [if_pos h, I.hd]
        rw [if_neg (by rw [hb]; cases b <;> decide)]
      · simp only [if_neg h])]
  intro b q h; simpa using FB.pinF b h
  eq_refl
end
def W0 (t0 t1 : Th) (N : NMap) (top : Addr) : Prop := ∃ d f nt nd nf, Iv t0 t1 [] N top d f nt nd nf
def W1 (t0 t1 : Th) (N : NMap) (top : Addr) : Prop := ∃ d f nt nd nf g ng, Iv t0 t1 [(("g" : Str), g)] N top d f nt nd nf ∧ N g = some ng ∧ ng.nm = none ∧ g ≠ f
section
variable {t0 t1 : Th} {N N' : NMap} {top : Addr} {fo : Fo} {u : Str} {r : PyData}
theorem W0.read (h : W0 t0 t1 N top) (k : Res fo top u N (.read ["d", "f"]) N' r) : W0 t0 t1 N' top ∧ r = if (mayT fo u 114 t0 && mayT fo u 114 t1) = true then toldD (.tuple []) else noD "noright" := by
  refine' @FB.also _ _ ?_ ?_ ?_; rotate_left
  · intro wit__; simp only [↓FB.viaW wit__ (by
      clear wit__
      obtain ⟨d, f, nt, nd, nf, I⟩ := h
      have g := I.go_df (fo := fo) (u := u)
      cases k with
      | readNo e =>
        rw [g] at e
        split at e
        · cases e
        · rename_i hm
          cases e
          exact ⟨⟨d, f, nt, nd, nf, I⟩, by rw [if_neg (by rw [Bool.and_eq_true]; exact fun q => hm q.1)]⟩
      | readNot e hn hs =>
        rw [g] at e
        split at e
        · cases e
          rw [I.hf] at hn
          cases hn
          exact absurd I.ff (some_ne hs)
        · cases e
      | readRight e hn hs hm =>
        rw [g] at e
        split at e
        · cases e
          rw [I.hf] at hn
          cases hn
          rw [I.fn.may] at hm
          exact ⟨⟨d, f, nt, nd, nf, I⟩, by rw [if_neg (by rw [hm]; simp)]⟩
        · cases e
      | readNone e hn hs hm hp =>
        rw [g] at e
        split at e
        · rename_i h0
          cases e
          rw [I.hf] at hn
          cases hn
          rw [I.fn.may] at hm
          exact ⟨⟨d, f, nt, nd, nf, I⟩, by rw [if_pos (by rw [h0, hm]; rfl)]⟩
        · cases e)]
  intro b q h; simpa using FB.pinF b h
  eq_refl
theorem shr_nil : shr [] 0 = [] := rfl
theorem W0.cut (h : W0 t0 t1 N top) (k : Res fo top u N (.cut ["d", "f"] 0) N' r) : W0 t0 t1 N' top ∧ r = if (mayT fo u 114 t0 && mayT fo u 119 t1) = true then doneD else noD "noright" := by
  refine' @FB.also _ _ ?_ ?_ ?_; rotate_left
  · intro wit__; simp only [↓FB.viaW wit__ (by
      clear wit__
      obtain ⟨d, f, nt, nd, nf, I⟩ := h
      have g : filS (some 119) N fo u ["d", "f"] top = if mayT fo u 114 t0 = true then (if mayT fo u 119 t1 = true then .inr f else .inl "noright") else .inl "noright" := by
        unfold filS
        simp only [I.go_df]
        by_cases hm : mayT fo u 114 t0 = true
        · rw [if_pos hm, if_pos hm, fil_in I.hf I.ff, let_in I.hf, I.fn.may]
        · rw [if_neg hm, if_neg hm]
          rfl
      cases k with
      | cutNo e =>
        rw [g] at e
        refine ⟨⟨d, f, nt, nd, nf, I⟩, ?_⟩
        split at e
        · split at e
          · cases e
          · rename_i hm
            cases e
            rw [if_neg (by rw [Bool.and_eq_true]; exact fun q => hm q.2)]
        · rename_i hm
          cases e
          rw [if_neg (by rw [Bool.and_eq_true]; exact fun q => hm q.1)]
      | cutPlace e hn hs =>
        rw [g] at e
        split at e
        · split at e
          · cases e
            rw [I.hf] at hn
            cases hn
            rw [I.fs] at hs
            omega
          · cases e
        · cases e
      | @cut _ _ b nb pv e hn hs =>
        rw [g] at e
        split at e
        · rename_i h0
          split at e
          · rename_i h1
            cases e
            rw [I.hf] at hn
            cases hn
            have hps := (I.all f nf I.hf).2
            refine ⟨⟨d, f, nt, nd, { nf with parts := pv, ps := shr nf.ps 0, size := 0 }, ⟨by rw [setN_ne I.ft.symm]; exact I.ht, I.tf, I.tr, I.tk, by rw [setN_ne I.fd.symm]; exact I.hd, I.df, I.dn, I.dk, setN_eq, I.ff, I.fn, rfl, fun a n e => ?_⟩⟩, by rw [if_pos (by rw [h0, h1]; rfl)]⟩
            by_cases ea : a = f
            · rw [ea, setN_eq] at e
              cases e
              exact ⟨(I.all f nf I.hf).1, by show shr nf.ps 0 = []; rw [hps]; exact shr_nil⟩
            · rw [setN_ne ea] at e
              exact I.all a n e
          · cases e
        · cases e)]
  intro b q h; simpa using FB.pinF b h
  eq_refl
theorem W0.list (h : W0 t0 t1 N top) (k : Res fo top u N (.list ["d"]) N' r) : W0 t0 t1 N' top ∧ r = if mayT fo u 114 t0 = true then toldD (.tuple [.tuple [.str "f", .str "file"]]) else noD "noright" := by
  refine' @FB.also _ _ ?_ ?_ ?_; rotate_left
  · intro wit__; simp only [↓FB.viaW wit__ (by
      clear wit__
      obtain ⟨d, f, nt, nd, nf, I⟩ := h
      have g := I.go_d (fo := fo) (u := u)
      cases k with
      | listNo e => rw [g] at e; cases e
      | listNot e hn hs =>
        rw [g] at e
        cases e
        rw [I.hd] at hn
        cases hn
        exact absurd hs (some_ne I.df)
      | listRight e hn hs hm =>
        rw [g] at e
        cases e
        rw [I.hd] at hn
        cases hn
        rw [I.dn.may] at hm
        exact ⟨⟨d, f, nt, nd, nf, I⟩, by rw [if_neg (by rw [hm]; simp)]⟩
      | @list _ _ _ ys e hn hs hm hy =>
        rw [g] at e
        cases e
        rw [I.hd] at hn
        cases hn
        rw [I.dn.may] at hm
        refine ⟨⟨d, f, nt, nd, nf, I⟩, ?_⟩
        have h1 := hy.1
        rw [I.dk] at h1
        have ey : ys = (["f"] : List Str) := List.perm_singleton.mp h1
        have ek : kidKind N nd.kids "f" = "file" := by
          unfold kidKind
          rw [I.dk, kid_hd]
          simp only [I.hf]
          unfold kindS
          rw [I.ff]
          rfl
        rw [if_pos hm, ey]
        unfold listD
        simp only [List.map_cons, List.map_nil, ek])]
  intro b q h; simpa using FB.pinF b h
  eq_refl
theorem kid_fg {f : Addr} : kidOf [(("f" : Str), f)] "g" = none := by
  refine' @FB.also _ _ ?_ ?_ ?_; rotate_left
  · intro wit__; simp only [↓FB.viaW wit__ (by
      clear wit__
      rw [kid_tl ff_fg]
      rfl)]
  intro b q h; simpa using FB.pinF b h
  eq_refl
theorem W0.make (h : W0 t0 t1 N top) (k : Res fo top u N (.make false ["d", "g"]) N' r) : (mayT fo u 119 t0 = true ∧ r = doneD ∧ W1 t0 t1 N' top) ∨ (mayT fo u 119 t0 = false ∧ r = noD "noright" ∧ W0 t0 t1 N' top) := by
  refine' @FB.also _ _ ?_ ?_ ?_; rotate_left
  · intro wit__; simp only [↓FB.viaW wit__ (by
      clear wit__
      obtain ⟨d, f, nt, nd, nf, I⟩ := h
      have g := I.place (fo := fo) (u := u) (x := "g") (w0 := "stands") (w1 := "stands") (b := true) (by rw [I.dk, kid_fg]; rfl)
      cases k with
      | makeNo e =>
        rw [g] at e
        split at e
        · cases e
        · rename_i hm
          cases e
          exact .inr ⟨by simpa using hm, rfl, d, f, nt, nd, nf, I⟩
      | @make _ _ a x na b nn e hx ha hb hn =>
        rw [g] at e
        split at e
        · rename_i hm
          cases e
          cases hx
          rw [I.hd] at ha
          cases ha
          obtain ⟨n1, n2, n3, n4, n5, n6, n7, n8, n9, n10, n11⟩ := hn
          have bt : top ≠ b := fun e => by rw [← e, I.ht] at hb; cases hb
          have bd : d ≠ b := fun e => by rw [← e, I.hd] at hb; cases hb
          have bf : f ≠ b := fun e => by rw [← e, I.hf] at hb; cases hb
          have nnm : nn.nm = none := by cases e : nn.nm <;> rw [e] at n6 <;> simp_all
          refine .inl ⟨hm, rfl, d, f, nt, addKid nd "g" b, nf, b, nn, ⟨by rw [setN_ne I.td, setN_ne bt]; exact I.ht, I.tf, I.tr, I.tk, setN_eq, I.df, I.dn, ?_, by rw [setN_ne I.fd, setN_ne bf]; exact I.hf, I.ff, I.fn, I.fs, fun a n e => ?_⟩, by rw [setN_ne bd.symm]; exact setN_eq, nnm, bf.symm⟩
          · show nd.kids ++ [(("g" : Str), b)] = _
            rw [I.dk]
            rfl
          · by_cases ea : a = d
            · rw [ea, setN_eq] at e
              cases e
              refine ⟨?_, (I.all d nd I.hd).2⟩
              show (nd.kids ++ [(("g" : Str), b)]).length ≤ 8
              rw [I.dk]
              show 2 ≤ 8
              decide
            · rw [setN_ne ea] at e
              by_cases eb : a = b
              · rw [eb, setN_eq] at e
                cases e
                exact ⟨by rw [n7]; exact Nat.zero_le _, n11⟩
              · rw [setN_ne eb] at e
                exact I.all a n e
        · cases e)]
  intro b q h; simpa using FB.pinF b h
  eq_refl
theorem W0.strike (h : W0 t0 t1 N top) (hm : mayT fo u 119 t0 = false) (k : Res fo top u N (.strike ["d", "g"]) N' r) : r = noD "noright" ∧ W0 t0 t1 N' top := by
  refine' @FB.also _ _ ?_ ?_ ?_; rotate_left
  · intro wit__; simp only [↓FB.viaW wit__ (by
      clear wit__
      obtain ⟨d, f, nt, nd, nf, I⟩ := h
      have g : placeN "top" "nothere" false N fo u ["d", "g"] top = .inl "noright" := by
        unfold placeN
        rw [show (["d", "g"] : List Str).getLast? = some ("g" : Str) from rfl, I.of, if_neg (by rw [hm]; decide)]
      cases k with
      | strikeNo e =>
        rw [g] at e
        cases e
        exact ⟨rfl, d, f, nt, nd, nf, I⟩
      | strikeFull e => rw [g] at e; cases e
      | strikeFold e => rw [g] at e; cases e
      | strikeFile e => rw [g] at e; cases e)]
  intro b q h; simpa using FB.pinF b h
  eq_refl
theorem last2 {x y : Str} : [x, y].getLast? = some y := rfl
theorem kid_g {f g : Addr} : kidOf [(("f" : Str), f), (("g" : Str), g)] "g" = some g := by
  refine' @FB.also _ _ ?_ ?_ ?_; rotate_left
  · intro wit__; simp only [↓FB.viaW wit__ (by
      clear wit__
      rw [kid_tl ff_fg]
      exact kid_hd)]
  intro b q h; simpa using FB.pinF b h
  eq_refl
theorem W1.strike (h : W1 t0 t1 N top) (hm : mayT fo u 119 t0 = true) (k : Res fo top u N (.strike ["d", "g"]) N' r) : r = doneD ∧ W0 t0 t1 N' top := by
  refine' @FB.also _ _ ?_ ?_ ?_; rotate_left
  · intro wit__; simp only [↓FB.viaW wit__ (by
      clear wit__
      obtain ⟨d, f, nt, nd, nf, b, nb, I, hb, hbn, bf⟩ := h
      have g := I.place (fo := fo) (u := u) (x := "g") (w0 := "top") (w1 := "nothere") (b := false) (by rw [I.dk, kid_g]; rfl)
      rw [if_pos hm] at g
      have bt : top ≠ b := fun e => by
        rw [← e, I.ht] at hb
        cases hb
        exact absurd hbn (some_ne I.tf)
      have bd : d ≠ b := fun e => by
        rw [← e, I.hd] at hb
        cases hb
        exact absurd hbn (some_ne I.df)
      cases k with
      | strikeNo e => rw [g] at e; cases e
      | strikeFull e hx ha hk hn hs =>
        rw [g] at e
        cases e
        obtain rfl := Option.some.inj (last2.symm.trans hx)
        rw [I.hd] at ha
        cases ha
        rw [I.dk, kid_g] at hk
        cases hk
        rw [hb] at hn
        cases hn
        exact absurd hbn (some_ne hs)
      | strikeFold e hx ha hk hn hs =>
        rw [g] at e
        cases e
        obtain rfl := Option.some.inj (last2.symm.trans hx)
        rw [I.hd] at ha
        cases ha
        rw [I.dk, kid_g] at hk
        cases hk
        rw [hb] at hn
        cases hn
        exact absurd hbn (some_ne hs)
      | strikeFile e hx ha hk hn hs =>
        rw [g] at e
        cases e
        obtain rfl := Option.some.inj (last2.symm.trans hx)
        rw [I.hd] at ha
        cases ha
        rw [I.dk, kid_g] at hk
        cases hk
        rw [hb] at hn
        cases hn
        refine ⟨rfl, d, f, nt, dropKid nd "g", nf, ⟨by rw [setN_ne I.td, setN_ne bt]; exact I.ht, I.tf, I.tr, I.tk, setN_eq, I.df, I.dn, ?_, by rw [setN_ne I.fd, setN_ne bf.symm]; exact I.hf, I.ff, I.fn, I.fs, fun a n e => ?_⟩⟩
        · show (nd.kids.filter fun p => decide (p.1 ≠ ("g" : Str))) = _
          rw [I.dk]
          simp [ff_fg]
        · by_cases ea : a = d
          · rw [ea, setN_eq] at e
            cases e
            refine ⟨?_, (I.all d nd I.hd).2⟩
            show (nd.kids.filter fun p => decide (p.1 ≠ ("g" : Str))).length ≤ 8
            exact Nat.le_trans (List.length_filter_le _ _) (I.all d nd I.hd).1
          · rw [setN_ne ea] at e
            by_cases eb : a = b
            · rw [eb, setN_eq] at e
              cases e
              exact I.all b nb hb
            · rw [setN_ne eb] at e
              exact I.all a n e)]
  intro b q h; simpa using FB.pinF b h
  eq_refl
/-- what is asked ahead -/
theorem W0.all (h : W0 t0 t1 N top) : ∀ a n, N a = some n → n.kids.length ≤ 8 ∧ n.ps = [] := by
  refine' @FB.also _ _ ?_ ?_ ?_; rotate_left
  · intro wit__; simp only [↓FB.viaW wit__ (by
      clear wit__
      obtain ⟨d, f, nt, nd, nf, I⟩ := h
      exact I.all)]
  intro b q h; simpa using FB.pinF b h
  eq_refl
theorem W1.all (h : W1 t0 t1 N top) : ∀ a n, N a = some n → n.kids.length ≤ 8 ∧ n.ps = [] := by
  refine' @FB.also _ _ ?_ ?_ ?_; rotate_left
  · intro wit__; simp only [↓FB.viaW wit__ (by
      clear wit__
      obtain ⟨d, f, nt, nd, nf, g, ng, I, _⟩ := h
      exact I.all)]
  intro b q h; simpa using FB.pinF b h
  eq_refl
theorem W0.pre (h : W0 t0 t1 N top) : Pre fo top u N (.strike ["d", "g"]) := by
  refine' @FB.also _ _ ?_ ?_ ?_; rotate_left
  · intro wit__; simp only [↓FB.viaW wit__ (by
      clear wit__
      obtain ⟨d, f, nt, nd, nf, I⟩ := h
      intro a x na b nb e hx ha hk hb
      have hp := e
      unfold placeN at hp
      rw [show (["d", "g"] : List Str).getLast? = some ("g" : Str) from rfl, I.of] at hp
      by_cases hm : mayT fo u 119 t0 = true
      · simp only [if_pos hm, I.hd] at hp
        rw [if_pos (by rw [I.dk, kid_fg]; rfl)] at hp
        cases hp
      · simp only [if_neg hm] at hp
        cases hp)]
  intro b q h; simpa using FB.pinF b h
  eq_refl
theorem W1.pre (h : W1 t0 t1 N top) : Pre fo top u N (.strike ["d", "g"]) := by
  refine' @FB.also _ _ ?_ ?_ ?_; rotate_left
  · intro wit__; simp only [↓FB.viaW wit__ (by
      clear wit__
      obtain ⟨d, f, nt, nd, nf, g, ng, I, hg, hgn, gf⟩ := h
      intro a x na b nb e hx ha hk hb
      rw [I.place (by rw [I.dk, kid_g]; rfl)] at e
      split at e
      · cases e
        obtain rfl := Option.some.inj (last2.symm.trans hx)
        rw [I.hd] at ha
        cases ha
        rw [I.dk, kid_g] at hk
        cases hk
        rw [hg] at hb
        cases hb
        exact .inl hgn
      · cases e)]
  intro b q h; simpa using FB.pinF b h
  eq_refl
def newT : Th := ⟨"root", "root", "rw", "r", "r"⟩
structure Iu (N : NMap) (top d : Addr) (nt nd : Nd) : Prop where
  ht : N top = some nt
  tf : nt.nm.isSome = true
  tr : opn nt = true
  tg : nt.gr = "root"
  tk : nt.kids = [(("d" : Str), d)]
  hd : N d = some nd
  df : nd.nm.isSome = true
  dn : IsN nd newT
  dk : nd.kids = []
  all : ∀ a n, N a = some n → n.kids.length ≤ 8 ∧ n.ps = []
theorem top_mk {b : Addr} {n : Nd} (ht : topNd n) (k : Res fo b "root" (fun a => if a = b then some n else none) (.make true ["d"]) N' r) : r = doneD ∧ ∃ d nt nd, Iu N' b d nt nd := by
  refine' @FB.also _ _ ?_ ?_ ?_; rotate_left
  · intro wit__; simp only [↓FB.viaW wit__ (by
      clear wit__
      obtain ⟨h1, h2, h3, h4, h5, h6, h7, hps⟩ := ht
      have hb : ((fun a => if a = b then some n else none) : NMap) b = some n := if_pos rfl
      have g : placeN "stands" "stands" true (fun a => if a = b then some n else none) fo "root" ["d"] b = .inr b := by
        unfold placeN
        rw [show (["d"] : List Str).getLast? = some ("d" : Str) from rfl]
        have e : ofN (fun a => if a = b then some n else none) fo "root" ["d"] b = .inr b := by
          unfold ofN
          rw [show (["d"] : List Str).dropLast = [] from rfl]
          show letN _ fo "root" 119 (folN _ (.inr b)) = _
          rw [fol_in hb h6, let_in hb, if_pos (by unfold mayN mayB; rw [if_pos rfl])]
        simp only [e, if_true, h7]
        rfl
      cases k with
      | makeNo e => rw [g] at e; cases e
      | @make _ _ a x na c nn e hx ha hc hn =>
        rw [g] at e
        cases e
        cases hx
        rw [if_pos rfl] at ha
        cases ha
        obtain ⟨n1, n2, n3, n4, n5, n6, n7, n8, n9, n10, n11⟩ := hn
        have cb : c ≠ b := fun e => by
          rw [if_pos e] at hc
          cases hc
        refine ⟨rfl, c, addKid n "d" c, nn, setN_eq, h6, ?_, h2, by show n.kids ++ [(("d" : Str), c)] = _; rw [h7]; rfl, by rw [setN_ne cb]; exact setN_eq, n6, ⟨n1, by rw [n2]; exact h2, n3, n4, n5⟩, n7, fun a m e => ?_⟩
        · show (inC 114 n.r1 && (inC 114 n.r2 && inC 114 n.r3)) = true
          rw [h3, h4, h5]
          decide +kernel
        · by_cases ea : a = b
          · rw [ea, setN_eq] at e
            cases e
            exact ⟨by show (n.kids ++ [(("d" : Str), c)]).length ≤ 8; rw [h7]; show 1 ≤ 8; decide, hps⟩
          · rw [setN_ne ea] at e
            by_cases ec : a = c
            · rw [ec, setN_eq] at e
              cases e
              exact ⟨by rw [n7]; exact Nat.zero_le _, n11⟩
            · rw [setN_ne ec, if_neg ea] at e
              cases e)]
  intro b q h; simpa using FB.pinF b h
  eq_refl
theorem Iu.make2 {d : Addr} {nt nd : Nd} (I : Iu N top d nt nd) (k : Res fo top "root" N (.make false ["d", "f"]) N' r) : r = doneD ∧ W0 newT newT N' top := by
  refine' @FB.also _ _ ?_ ?_ ?_; rotate_left
  · intro wit__; simp only [↓FB.viaW wit__ (by
      clear wit__
      have td : top ≠ d := fun e => by
        have h := I.ht
        rw [e, I.hd] at h
        have h2 := Option.some.inj h
        have h3 := I.dk
        rw [h2, I.tk] at h3
        cases h3
      have g : placeN "stands" "stands" true N fo "root" ["d", "f"] top = .inr d := by
        unfold placeN
        rw [show (["d", "f"] : List Str).getLast? = some ("f" : Str) from rfl]
        have e : ofN N fo "root" ["d", "f"] top = .inr d := by
          unfold ofN
          rw [show (["d", "f"] : List Str).dropLast = (["d"] : List Str) from rfl, show goN N fo "root" ["d"] top = .inr d from go1 I.ht I.tf (may_open I.tr) (by rw [I.tk]; exact kid_hd), fol_in I.hd I.df, let_in I.hd, if_pos (by unfold mayN mayB; rw [if_pos rfl])]
        simp only [e, I.hd, I.dk]
        rfl
      cases k with
      | makeNo e => rw [g] at e; cases e
      | @make _ _ a x na c nn e hx ha hc hn =>
        rw [g] at e
        cases e
        obtain rfl := Option.some.inj (last2.symm.trans hx)
        rw [I.hd] at ha
        cases ha
        obtain ⟨n1, n2, n3, n4, n5, n6, n7, n8, n9, n10, n11⟩ := hn
        have ct : top ≠ c := fun e => by rw [← e, I.ht] at hc; cases hc
        have cd : d ≠ c := fun e => by rw [← e, I.hd] at hc; cases hc
        have nnm : nn.nm = none := by cases e : nn.nm <;> rw [e] at n6 <;> simp_all
        refine ⟨rfl, d, c, nt, addKid nd "f" c, nn, ⟨by rw [setN_ne td, setN_ne ct]; exact I.ht, I.tf, I.tr, I.tk, setN_eq, I.df, I.dn, by show nd.kids ++ [(("f" : Str), c)] = _; rw [I.dk]; rfl, by rw [setN_ne cd.symm]; exact setN_eq, nnm, ⟨n1, by rw [n2]; exact I.dn.2.1, n3, n4, n5⟩, n8, fun a m e => ?_⟩⟩
        by_cases ea : a = d
        · rw [ea, setN_eq] at e
          cases e
          exact ⟨by show (nd.kids ++ [(("f" : Str), c)]).length ≤ 8; rw [I.dk]; show 1 ≤ 8; decide, (I.all d nd I.hd).2⟩
        · rw [setN_ne ea] at e
          by_cases ec : a = c
          · rw [ec, setN_eq] at e
            cases e
            exact ⟨by rw [n7]; exact Nat.zero_le _, n11⟩
          · rw [setN_ne ec] at e
            exact I.all a m e)]
  intro b q h; simpa using FB.pinF b h
  eq_refl
theorem W0.rights_f {t : Th} (h : W0 t0 t1 N top) (k : Res fo top "root" N (.rights ["d", "f"] t.lo t.cl t.a t.b t.d) N' r) : r = doneD ∧ W0 t0 t N' top := by
  refine' @FB.also _ _ ?_ ?_ ?_; rotate_left
  · intro wit__; simp only [↓FB.viaW wit__ (by
      clear wit__
      obtain ⟨d, f, nt, nd, nf, I⟩ := h
      have g := I.go_df (fo := fo) (u := "root")
      rw [if_pos may_root] at g
      cases k with
      | rightsNo e => rw [g] at e; cases e
      | rightsNot e hn hr => exact absurd rfl hr
      | @rights _ _ _ _ _ _ a n rt e hn hr =>
        rw [g] at e
        cases e
        rw [I.hf] at hn
        cases hn
        refine ⟨rfl, d, f, nt, nd, _, ⟨by rw [setN_ne I.ft.symm]; exact I.ht, I.tf, I.tr, I.tk, by rw [setN_ne I.fd.symm]; exact I.hd, I.df, I.dn, I.dk, setN_eq, I.ff, ⟨rfl, rfl, rfl, rfl, rfl⟩, I.fs, fun a n e => ?_⟩⟩
        by_cases ea : a = f
        · rw [ea, setN_eq] at e
          cases e
          exact I.all f nf I.hf
        · rw [setN_ne ea] at e
          exact I.all a n e)]
  intro b q h; simpa using FB.pinF b h
  eq_refl
theorem W0.rights_d {t : Th} (h : W0 t0 t1 N top) (k : Res fo top "root" N (.rights ["d"] t.lo t.cl t.a t.b t.d) N' r) : r = doneD ∧ W0 t t1 N' top := by
  refine' @FB.also _ _ ?_ ?_ ?_; rotate_left
  · intro wit__; simp only [↓FB.viaW wit__ (by
      clear wit__
      obtain ⟨d, f, nt, nd, nf, I⟩ := h
      have g := I.go_d (fo := fo) (u := "root")
      cases k with
      | rightsNo e => rw [g] at e; cases e
      | rightsNot e hn hr => exact absurd rfl hr
      | @rights _ _ _ _ _ _ a n rt e hn hr =>
        rw [g] at e
        cases e
        rw [I.hd] at hn
        cases hn
        refine ⟨rfl, d, f, nt, _, nf, ⟨by rw [setN_ne I.td]; exact I.ht, I.tf, I.tr, I.tk, setN_eq, I.df, ⟨rfl, rfl, rfl, rfl, rfl⟩, I.dk, by rw [setN_ne I.fd]; exact I.hf, I.ff, I.fn, I.fs, fun a n e => ?_⟩⟩
        by_cases ea : a = d
        · rw [ea, setN_eq] at e
          cases e
          exact I.all d nd I.hd
        · rw [setN_ne ea] at e
          exact I.all a n e)]
  intro b q h; simpa using FB.pinF b h
  eq_refl
end
section
variable {z : Zn} {K : PySem.W.Frag} {σ : L2.St} {H : Hp} {ta tb : TE}
theorem ev_eqK {d e : PyData} (ha : Ev z ta σ H (DK K z d)) (hb : ∀ H1, z.R H H1 → Ev z tb σ H1 (DK K z e)) (s1 : SeqAt.shaped d = true) (s2 : SeqAt.shaped e = true) : Ev z (tOp (rEqD K) ta tb) σ H (Is (.bl (PyData.eqv d e))) := by
  refine' @FB.also _ _ ?_ ?_ ?_; rotate_left
  · intro wit__; simp only [↓FB.viaW wit__ (by
      clear wit__
      exact ev_op ha (fun _ H1 r _ => hb H1 r) fun x y H1 r hx hy => rn_val r.dr (fun Q k => ⟨d, e, hx.at, hy.at, s1, s2, k⟩) fun _ _ => rfl)]
  intro b q h; simpa using FB.pinF b h
  eq_refl
theorem ev_neK {d e : PyData} (ha : Ev z ta σ H (DK K z d)) (hb : ∀ H1, z.R H H1 → Ev z tb σ H1 (DK K z e)) (s1 : SeqAt.shaped d = true) (s2 : SeqAt.shaped e = true) : Ev z (tOp (rNeD K) ta tb) σ H (Is (.bl (!PyData.eqv d e))) := by
  refine' @FB.also _ _ ?_ ?_ ?_; rotate_left
  · intro wit__; simp only [↓FB.viaW wit__ (by
      clear wit__
      exact ev_op ha (fun _ H1 r _ => hb H1 r) fun x y H1 r hx hy => rn_val r.dr (fun Q k => ⟨d, e, hx.at, hy.at, s1, s2, k⟩) fun _ _ => rfl)]
  intro b q h; simpa using FB.pinF b h
  eq_refl
end
end FB
set_option Elab.async false
set_option linter.all false
set_option maxRecDepth 100000
set_option maxHeartbeats 4000000
namespace FB
open PySem PySem.Spec PyProof.Rows L2 RZ
theorem k_pgl {X : Cx} {K : PySem.W.Frag} {es : List Expr} {k : Nat} {t : TGs} {n : Nat} {pos : Pos} (h : PGs X es t) (hc : X.calm = true := by rfl) (hn : (assignEach es X.env).length = n := by rfl) (hst : (assignEach es X.env).findIdx? (·.1) = none := by rfl) (hK : X.K = K := by rfl) :
    PG X (.Tuple es k pos) (gLst K n t) := hK ▸ pg_lst hc h hn hst
theorem q_lcW {K : PySem.W.Frag} {σ : L2.St} {H : Hp} {i j ip : Nat} {vs : List Nat} {te : TE} {p : Addr} {xs : List V} {tu : TS} {D' : Ends} (W : Addr → Nat → Hp → List V → Prop) (es : σ[ip]? = some (some (.ref p))) (hp : H p = some (.lst xs)) (hv : ∀ x, wipe ((wipe σ vs).set j (some x)) vs = wipe σ vs)
    (h0 : ∀ D, H D = none → W D 0 (upd H D (.lst [])) []) (hs : ∀ D k H' acc, H D = none → W D k H' acc → H' p = some (.lst xs))
    (step : ∀ D k H' acc x, H D = none → W D k H' acc → xs[k]? = some x → te ((wipe σ vs).set j (some x)) H' fun y H4 => ∃ acc', H4 D = some (.lst acc') ∧ acc'.length < sizeLine ∧ ∃ acc'', W D (k + 1) (upd H4 D (.lst (acc' ++ [y]))) acc'')
    (fin : ∀ D H' acc, H D = none → W D xs.length H' acc → tu D' (σ.set i (some (.ref D))) H') :
    tSeq (tAsg (tLc (iList K (tVar ip)) (gName j) tYes te vs) (gName i)) tu D' σ H := by
  refine' @FB.also _ _ ?_ ?_ ?_; rotate_left
  · intro wit__; simp only [↓FB.viaW wit__ (by
      clear wit__
      refine ⟨_, es, p, rfl, ⟨xs, .inl (.inl hp)⟩, fun D hD => ⟨fun k m H' => k + m = xs.length ∧ ∃ acc, W D k H' acc, ⟨xs.length, Nat.zero_add _, [], h0 D hD⟩, fun k m H' ⟨em, acc, w⟩ => ?_⟩⟩
      have hp' := hs D k H' acc hD w
      have hq : SqL K H' p xs := .inl (.inl hp')
      by_cases hk : k < xs.length
      · right
        refine ⟨⟨xs, xs[k], hq, List.getElem?_eq_getElem hk⟩, fun H'' => ∃ acc, W D (k + 1) H'' acc, fun H'' h => ⟨m - 1, by omega, by omega, h⟩, fun x H'' hy => ?_⟩
        obtain ⟨rfl, hx⟩ := hy
        have hx' := hx xs hq
        refine ⟨hv x, ?_⟩
        exact step D k H'' acc x hD w hx'
      · left
        have ek : k = xs.length := by omega
        subst ek
        exact ⟨⟨xs, hq, Nat.le_refl _⟩, fin D H' acc hD w⟩)]
  intro b q h; simpa using FB.pinF b h
  eq_refl
section
variable {K : PySem.W.Frag} {CF CL CK CT : Addr} {S : Addr → Prop} {z z' : Zn} {H H' : Hp} {c : Addr} {co : Co} {fo : Fo} {ws : List V} {N : NMap}
/-- where nothing that stood may change -/
theorem Step.toR (s : Step (fun _ => False) z H z' H') (hz : z.R H H) : z.R H H' := by
  refine' @FB.also _ _ ?_ ?_ ?_; rotate_left
  · intro wit__; simp only [↓FB.viaW wit__ (by
      clear wit__
      exact ⟨fun p o i e => s.kp p o i (fun q => q) e, hz.i1, fun p φ e => s.r.i2 p φ (by rw [s.I]; exact e), hz.l1, fun p u => s.r.l2 p (s.U2 p u)⟩)]
  intro b q h; simpa using FB.pinF b h
  eq_refl
def Zn.rm (z : Zn) (t : Addr) (h : z.I t = none) : Zn := ⟨z.I, fun a => z.U a ∧ a ≠ t, fun a e => ⟨z.cov a e, fun q => e (by rw [q]; exact h)⟩⟩
theorem CoFull.rm {t : Addr} (h : CoFull K CF CL CK z H c co fo ws N) (ht : z.I t = none) (hd : ∀ p, ownP c N p → p ≠ t) : CoFull K CF CL CK (z.rm t ht) H c co fo ws N := by
  refine' @FB.also _ _ ?_ ?_ ?_; rotate_left
  · intro wit__; simp only [↓FB.viaW wit__ (by
      clear wit__
      have up : ∀ {a : Addr}, ¬ z.U a → ¬ (z.rm t ht).U a := fun n u => n u.1
      have du : ∀ {v : V} {d : PyData}, DU z.U H v d → DU (z.rm t ht).U H v d := fun h => h.go fun a o n e => ⟨up n, e⟩
      have dua : ∀ {v : List V} {d : List PyData}, DUA z.U H v d → DUA (z.rm t ht).U H v d := fun h => h.go fun a o n e => ⟨up n, e⟩
      refine ⟨⟨h.ca.nc, h.ca.hc, h.ca.nq, ⟨h.ca.hm.at_, dua h.ca.hm.da⟩, ⟨fun a n e => ?_, h.ca.ht.kd, h.ca.ht.ok, h.ca.ht.op, fun a n e en => du (h.ca.ht.pa a n e en)⟩, h.ca.n0⟩, ⟨h.uc, hd c (.inl rfl)⟩, fun a n e => ⟨h.un a n e, hd a (.inr (.inl ⟨n, e⟩))⟩, fun a n d e ed => ⟨h.ud a n d e ed, hd d (.inr (.inr ⟨a, n, e, ed⟩))⟩, h.inj, up h.umem, fun d e => ?_, h.neF, h.neL⟩
      · obtain ⟨g1, g2, p, e1, k⟩ := h.ca.ht.at_ a n e
        exact ⟨g1, g2, p, e1, k.imp (fun q => ⟨up q.1, q.2⟩) id⟩
      · obtain ⟨g1, g2, g3⟩ := h.calm d e
        exact ⟨g1, up g2, g3⟩)]
  intro b q h; simpa using FB.pinF b h
  eq_refl
/-- what a tree owns: objects and dicts -/
theorem CoFull.kinds (h : CoFull K CF CL CK z H c co fo ws N) {p : Addr} (o : ownP c N p) : (∃ C dx fs, H p = some (.ins C dx fs)) ∨ ∃ kvs, H p = some (.dK kvs) := by
  refine' @FB.also _ _ ?_ ?_ ?_; rotate_left
  · intro wit__; simp only [↓FB.viaW wit__ (by
      clear wit__
      rcases o with rfl | ⟨n, hn⟩ | ⟨a, n, hn, hd⟩
      · exact .inl ⟨_, _, _, h.ca.hc⟩
      · exact .inl ⟨_, _, _, (h.ca.ht.at_ p n hn).2.1⟩
      · exact .inr ⟨_, (h.ca.ht.kd a n p hn hd).2⟩)]
  intro b q h; simpa using FB.pinF b h
  eq_refl
theorem CoFull.no_lst (h : CoFull K CF CL CK z H c co fo ws N) {p : Addr} {xs : List V} (hp : H p = some (.lst xs)) : ¬ ownP c N p := fun o => by
  rcases h.kinds o with ⟨_, _, _, e⟩ | ⟨_, e⟩ <;> (rw [hp] at e; cases e)
theorem CoFull.ni (h : CoFull K CF CL CK z H c co fo ws N) {p : Addr} (o : ownP c N p) : z.I p = none := by
  refine' @FB.also _ _ ?_ ?_ ?_; rotate_left
  · intro wit__; simp only [↓FB.viaW wit__ (by
      clear wit__
      rcases o with rfl | ⟨n, hn⟩ | ⟨a, n, hn, hd⟩
      · exact h.ca.nc
      · exact (h.ca.ht.at_ p n hn).1
      · exact (h.ca.ht.kd a n p hn hd).1)]
  intro b q h; simpa using FB.pinF b h
  eq_refl
/-- all that a zone lets change -/
def chg (z : Zn) : Addr → Prop := fun p => z.U p ∧ z.I p = none
theorem CoFull.chg (h : CoFull K CF CL CK z H c co fo ws N) {p : Addr} (o : ownP c N p) : FB.chg z p := ⟨h.su p o, h.ni o⟩
theorem Step.weak {S S' : Addr → Prop} (s : Step S z H z' H') (i : ∀ p, S p → S' p) (su : ∀ p, S' p → z.U p) : Step S' z H z' H' := ⟨s.I, s.U, s.U2, fun p o e n => s.kp p o e fun q => n (i p q), su, s.r⟩
/-- .. one behind another -/
theorem Step.trc {z'' : Zn} {H'' : Hp} (hz : z.R H H) (s : Step (chg z) z H z' H') (t : Step (chg z') z' H' z'' H'') : Step (chg z) z H z'' H'' :=
  Step.tr hz s t fun p q => (s.U p q.1).elim (fun u => .inl ⟨u, by rw [← s.I]; exact q.2⟩) .inr
theorem Step.rm {t : Addr} (s : Step S z H z' H') (ht : z'.I t = none) (n : H t = none) (hz : z.R H H) : Step S z H (z'.rm t ht) H' := by
  refine' @FB.also _ _ ?_ ?_ ?_; rotate_left
  · intro wit__; simp only [↓FB.viaW wit__ (by
      clear wit__
      exact ⟨s.I, fun p u => s.U p u.1, fun p u => ⟨s.U2 p u, fun e => hz.l1 p u (by rw [e]; exact n)⟩, s.kp, s.su, ⟨fun _ _ _ e => e, s.r.i1, s.r.i2, fun p u => s.r.l1 p u.1, fun p u => s.r.l2 p u.1⟩⟩)]
  intro b q h; simpa using FB.pinF b h
  eq_refl
theorem chg_su : ∀ p, chg z p → z.U p := fun _ h => h.1
/-- a Tree does a deed -/
theorem do_run {σ : L2.St} {t dt pc : Addr} {targs : TA} {tt : TE} {ok : Dee → Prop} {E : XK} {when_ : Int} {user : Str} {e : Dee} {Q : VK} (hz : z.R H H) (hT : TreeAt CT z H t dt c pc) (hc : CoFull K CF CL CK z H c co fo ws N) (ht : Ev z tt σ H (Is (.ref t)))
    (ha : ∀ H1, z.R H H1 → EvA z targs σ H1 fun vs H' => ∃ v, vs = [.int when_, .str user, v] ∧ DU z.U H' v e.data) (hclk : co.clock ≤ when_) (hu : isW user = true) (hok : ok e) (hg : e.good) (hpre : Pre fo co.top user N e) (hkl : ∀ a n, N a = some n → n.kids.length < 64)
    (k : ∀ z' H' N' d v', Step (ownP c N) z H z' H' → CoFull K CF CL CK z' H' c { co with clock := when_ } fo ws N' → Res fo co.top user N e N' d → DK K z' d v' H' → Q v' H') : tMeth CT "do" (spDo K CF CL CK CT ok) [] E tt targs σ H Q := by
  refine' @FB.also _ _ ?_ ?_ ?_; rotate_left
  · intro wit__; simp only [↓FB.viaW wit__ (by
      clear wit__
      refine ht H hz _ fun x H1 r1 f1 => ?_
      have ex : x = .ref t := f1 H1 .refl
      subst ex
      have hT1 := hT.go r1.w
      refine ⟨t, dt, _, rfl, hT1.at_, rfl, ?_⟩
      refine ha H1 r1 H1 r1.dr _ fun vs H2 r2 f2 => ?_
      obtain ⟨v, rfl, hv⟩ := f2 H2 .refl
      have r12 := r1.tr r2
      exact ⟨z, t, dt, pc, c, co, fo, ws, N, when_, user, v, e, rfl, r2.dr, hT1.go r2.w, hc.go r12, hclk, hu, hv, hok, hg, hpre, hkl, fun z' H' N' d v' s => k z' H' N' d v' (Step.tr hz (Step.of_R hc.su r12) s fun p q => .inl q)⟩)]
  intro b q h; simpa using FB.pinF b h
  eq_refl
theorem rix0 {x : Str} {ds : List PyData} {v : V} {Q : VK} (h : DK K z (.tuple (.str x :: ds)) v H) (q : Q (.str x) H) : rIxT K v (.int 0) H Q := by
  refine' @FB.also _ _ ?_ ?_ ?_; rotate_left
  · intro wit__; simp only [↓FB.viaW wit__ (by
      clear wit__
      have d0 : ((PyData.str x :: ds))[0]? = some (.str x) := rfl
      generalize e : (PyData.tuple (.str x :: ds)) = D at h
      cases h with
      | tup nu hs ha =>
        injection e with e
        subst e
        obtain ⟨v', hv, dv⟩ := ha.at d0
        have ev : v' = .str x := by cases dv; rfl
        subst ev
        exact ⟨_, _, 0, .str x, rfl, rfl, .inl (.inl hs), atI_nat (j := 0) hv, q⟩
      | @kt a xs hk =>
        injection e with e
        cases xs with
        | nil => cases e
        | cons y ys =>
          injection e with e1 e2
          injection e1 with e1
          subst e1
          exact ⟨_, _, 0, .str x, rfl, rfl, hk H, atI_nat (j := 0) rfl, q⟩
      | _ => cases e)]
  intro b q h; simpa using FB.pinF b h
  eq_refl
end
section
variable {z : Zn} {K : PySem.W.Frag} {σ : L2.St} {H : Hp} {ta tb : TE} {xs : List V} {i : Nat} {k : Int} {tas : TA} {Φ : List V → Hp → Prop} {tu : TS} {D : Ends}
theorem ev_rep (ha : Ev z ta σ H (Lst z fun ws _ => ws = xs)) (hb : ∀ H1, z.R H H1 → Ev z tb σ H1 (Is (.int k))) (h1 : 0 ≤ k) (h2 : k ≤ 1000) (hl : xs.length ≤ 1000) : Ev z (tOp rRep ta tb) σ H (Lst z fun ws _ => ws = (List.replicate k.toNat xs).flatten) := by
  refine' @FB.also _ _ ?_ ?_ ?_; rotate_left
  · intro wit__; simp only [↓FB.viaW wit__ (by
      clear wit__
      exact ev_op ha (fun _ H1 r _ => hb H1 r) fun x y H1 r ⟨p, ws, e, nu, hp, ew⟩ hy Q q => by
          subst ew
          refine ⟨p, k, ws, e, hy, hp, by omega, by omega, ?_, fun d hd => q _ _ (r.dr.new hd) fun H3 w => ⟨d, _, rfl, r.dr.nu hd, w d _ (r.dr.nu hd) upd_same, rfl⟩⟩
          have : ws.length * k.toNat ≤ 1000 * 1000 := Nat.mul_le_mul hl (by omega)
          exact Nat.le_trans this (by decide))]
  intro b q h; simpa using FB.pinF b h
  eq_refl
theorem q_lstA (hR : z.R H H) (h : EvA z tas σ H Φ) (hl : ∀ vs H', Φ vs H' → vs.length ≤ 100000) (k : ∀ vs p H1, z.R H H1 → H1 p = none → (∀ H2, z.W H1 H2 → Φ vs H2) → tu D (σ.set i (some (.ref p))) (upd H1 p (.lst vs))) : tSeq (tAsg (tLst tas) (gName i)) tu D σ H :=
  h H hR _ fun vs H1 e f => ⟨Nat.le_trans (hl vs H1 (f H1 .refl)) (by decide), fun p hp => k vs p H1 e hp f⟩
end
/-- x = C(k=y) -/
theorem q_makeK1 {C : Addr} {sp : Sp} {gV : List V → List V → List V} {E : XK} {σ : L2.St} {H : Hp} {i j : Nat} {tu : TS} {D : Ends} {v : V} (h : σ[j]? = some (some v))
    (k : ∀ x dx, H x = none → H dx = none → dx ≠ x → sp (gV [.ref x] [v]) (upd (upd H dx (.own x)) x (.ins C dx [])) (fun w H3 => w = .non ∧ tu D (σ.set i (some (.ref x))) H3) E) : tSeq (tAsg (tMakeK C 0 1 sp gV E tNil (tCons (tVar j) tNil)) (gName i)) tu D σ H :=
  ⟨v, h, rfl, rfl, k⟩
section
variable {z : Zn} {K : PySem.W.Frag} {σ : L2.St} {H : Hp} {ta tb tc : TE} {ts tu : TS} {D : Ends} {i : Nat} {w : Int} {u : Str} {d : PyData}
theorem q_ifNe (h : ta σ H fun x H1 => tb σ H1 fun y H2 => rNeD K x y H2 fun w H3 => ∃ k, w = .bl k ∧ (if k = true then ts { D with nx := tu D } σ H3 else tu D σ H3)) : tSeq (tIfS (tTest (tOp (rNeD K) ta tb)) ts tNext) tu D σ H := h
theorem q_asgM (h : ta σ H fun v H1 => tu D (σ.set i (some v)) H1) : tSeq (tAsg ta (gName i)) tu D σ H := h
theorem Ev.go {H1 : Hp} {φ : VP} (h : Ev z ta σ H φ) (r : z.R H H1) : Ev z ta σ H1 φ := fun H2 e Q q => h H2 (r.tr e) Q q
theorem da3 (h1 : Ev z ta σ H (Is (.int w))) (h2 : Ev z tb σ H (Is (.str u))) (h3 : Ev z tc σ H (Dd z d)) : EvA z (tCons ta (tCons tb (tCons tc tNil))) σ H fun vs H' => ∃ v, vs = [.int w, .str u, v] ∧ DU z.U H' v d :=
  (ea_cons h1 fun _ H1 r1 _ => ea_cons (h2.go r1) fun _ H2 r2 _ => ea_cons (h3.go (r1.tr r2)) fun _ _ _ _ => ea_nil).imp fun vs H' _ ⟨a, r, e1, f1, b, r2, e2, f2, x3, r3, e3, f3, e4⟩ => ⟨x3, by
    have g1 : a = .int w := f1
    have g2 : b = .str u := f2
    rw [e1, e2, e3, e4, g1, g2], f3⟩
/-- done, or no right -/
def ansD (g : Bool) : PyData := .tuple (.str (if g then "done" else "no") :: (if g then [] else [.str "noright"]))
theorem ans_of (g : Bool) : (if g = true then doneD else noD "noright") = ansD g := by cases g <;> rfl
theorem pd_if {P : PyData → Prop} {b : Bool} {x y : PyData} (hx : P x) (hy : P y) : P (if b = true then x else y) := by cases b <;> assumption
theorem eqv_if {b : Bool} {x y : PyData} (hx : PyData.eqv x x = true) (hy : PyData.eqv y y = true) : PyData.eqv (if b = true then x else y) (if b = true then x else y) = true := by cases b <;> assumption
end
section
variable {z : Zn} {σ : L2.St} {H : Hp} {te : TE} {ts tw tu : TS} {D : Ends} {i j : Nat} {φ : VP} {p : Addr}
/-- x, y = e, [] -/
theorem q_parNew (hR : z.R H H) (h : Ev z te σ H φ) (k : ∀ v p H1, z.R H H1 → (∀ H2, z.W H1 H2 → φ v H2) → H1 p = none → tu D ((σ.set i (some v)).set j (some (.ref p))) (upd H1 p (.lst []))) : tSeq (tPar i j (tCons te (tCons (tLst tNil) tNil))) tu D σ H :=
  h H hR _ fun v H1 e f => ⟨Nat.zero_le _, fun p hp => ⟨v, .ref p, rfl, k v p H1 e f hp⟩⟩
theorem s_ifGood (e : σ[i]? = some (some (.bl true))) (h : te σ H fun x H1 => ∃ c, x = .bl c ∧ (if (!c) = true then ts D σ H1 else tw D σ H1)) : tIfS (tOr (tNot (tB (tVar i))) (tNot (tB te))) ts tw D σ H :=
  ⟨.bl true, e, true, rfl, h⟩
theorem chg_zu {a : Addr} : chg (zu p) a → False := fun ⟨h, e⟩ => by
  have h' : a = p := h
  subst h'
  rw [zu_i] at e
  cases e
end
theorem q_unL2 {K : PySem.W.Frag} {te : TE} {i j : Nat} {tu : TS} {D : Ends} {σ : L2.St} {H : Hp} (h : te σ H fun x H1 => ∃ a xs, x = .ref a ∧ SqL K H1 a xs ∧ xs.length = 2 ∧ ∃ v r, xs = v :: r ∧ ∃ w r2, r = w :: r2 ∧ r2 = [] ∧ tu D ((σ.set i (some v)).set j (some w)) H1) :
    tSeq (tAsg te (gLst K 2 (gCons (gName i) (gCons (gName j) gNil)))) tu D σ H := h
/-- a class made by C(..), its __init__ with defaults -/
structure Did (K : PySem.W.Frag) (mg : Str → Option Value) (C : Addr) (x : Str) (st : Stmt) (dvs : List V) where
  f : Addr
  fd : FuncData
  F : FunD K "__init__" (x ++ ".__init__") (defArgs st) (defBody st) (defScope st) dvs [] f fd
  mk1 : Mk K C f
  g : mg x = some (.ref C)
theorem Did.kb {K : PySem.W.Frag} {mg : Str → Option Value} {C : Addr} {x : Str} {st : Stmt} {dvs : List V} (d : Did K mg C x st dvs) {ps ks : List Str} {n : Nat} {g : List Value → List Value → List Value} {gV : List V → List V → List V} (hd : dvs ≠ [])
    (h : ∀ (T : Addr) (kV doc pm : Value) (an : Option Addr) (cdv ct : Value) (us ws its : List Value), us.length = n → ws.length = ks.length → its.length = dvs.length → ∃ k, bindArgs (PySem.W.fnOf "__init__" (x ++ ".__init__") (defArgs st) (defBody st) (defScope st) (.ref T) kV doc pm an cdv ct) ⟨us, ks.zip ws⟩ = seqItems? (.ref T) >>= k ∧ k (some its.toArray) = pure (ps.zip (g us ws)))
    (hr : ∀ {vs zs : List V} {us ws : List Value}, Vals vs us → Vals zs ws → Vals (gV vs zs) (g us ws)) : KBn K d.fd ps n ks g gV := by
  obtain ⟨oc, od, dV, kV, doc, pm, an, cdv, ct, osl, hfd, lk, hcd, hD, hK⟩ := d.F.ex
  rcases hD with ⟨e, _⟩ | ⟨_, T, o, its, m, rfl, lT, oT, rT⟩
  · exact absurd e hd
  · refine ⟨fun s us ws X h1 h2 => ?_, fun r r2 => hr r r2⟩
    rw [hfd]
    obtain ⟨k, e1, e2⟩ := h T kV doc pm an cdv ct us ws its h1 h2 rT.length.symm
    refine BindsTo.of_looks fun M => ?_
    rw [e1]
    exact looks_items X lT oT (.of_pure e2)
/-- isinstance of an own class -/
theorem kit_own {K : PySem.W.Frag} {t : Value} {C : Addr} {oc : Value} {od : Option Addr} {cd : ClassData} {os : Array (Option Value)} {b : Bool} (n : (t == Value.ref C) = false) (h : K.lookup C = some ⟨oc, od, .cls cd, os⟩) (ht : PySem.W.typeIn K (.ref C) = some (.type "type")) (s : PySem.W.subIn K t (.ref C) = some b) : PySem.W.kitOne K t (.ref C) = some b := by
  refine' @FB.also _ _ ?_ ?_ ?_; rotate_left
  · intro wit__; simp only [↓FB.viaW wit__ (by
      clear wit__
      unfold PySem.W.kitOne
      rw [if_neg (by rw [n]; decide)]
      show (if ((PySem.W.clsIn K C).isSome && PySem.W.typeIn K (.ref C) == some (.type "type")) = true then PySem.W.subIn K t (.ref C) else none) = some b
      have hc : (PySem.W.clsIn K C).isSome = true := by
        unfold PySem.W.clsIn
        rw [h]
        rfl
      rw [hc, ht]
      exact s)]
  intro b q h; simpa using FB.pinF b h
  eq_refl
theorem kit_same {K : PySem.W.Frag} {C : Addr} : PySem.W.kitOne K (.ref C) (.ref C) = some true := by
  refine' @FB.also _ _ ?_ ?_ ?_; rotate_left
  · intro wit__; simp only [↓FB.viaW wit__ (by
      clear wit__
      unfold PySem.W.kitOne
      rw [if_pos (by simp)])]
  intro b q h; simpa using FB.pinF b h
  eq_refl
theorem kit_ty {K : PySem.W.Frag} {C : Addr} {T : String} {b : Bool} (m : PySem.W.kitMeta T = true) (s : PySem.W.subIn K (.ref C) (.type T) = some b) : PySem.W.kitOne K (.ref C) (.type T) = some b := by
  refine' @FB.also _ _ ?_ ?_ ?_; rotate_left
  · intro wit__; simp only [↓FB.viaW wit__ (by
      clear wit__
      unfold PySem.W.kitOne
      rw [if_neg (by rw [show ((Value.ref C == Value.type T) = false) from rfl]; decide)]
      show (if PySem.W.kitMeta T = true then PySem.W.subIn K (.ref C) (.type T) else none) = some b
      rw [if_pos m]
      exact s)]
  intro b q h; simpa using FB.pinF b h
  eq_refl
end FB
set_option Elab.async false
set_option linter.all false
set_option maxRecDepth 100000
set_option maxHeartbeats 4000000
namespace K05
open PySem PySem.Spec PyProof.Rows L2 FB
def topS (i : Nat) : Stmt := PySem.Challenge.pw_farfiles_k05_whole_may_and_the_tree.main.body.getD i (.Pass ⟨0, 0, 0, 0⟩)
abbrev s_is_word : Stmt := topS 20
theorem sc_is_word : FnScope ["thing"] ["thing"] (defScope s_is_word) := ⟨rfl, rfl, rfl, by decide +kernel, rfl, by decide +kernel, by decide +kernel⟩
abbrev s_is_path : Stmt := topS 21
theorem sc_is_path : FnScope ["thing", "name"] ["thing"] (defScope s_is_path) := ⟨rfl, rfl, rfl, by decide +kernel, rfl, by decide +kernel, by decide +kernel⟩
abbrev s_is_rights : Stmt := topS 22
theorem sc_is_rights : FnScope ["thing", "owners", "members", "others"] ["thing"] (defScope s_is_rights) := ⟨rfl, rfl, rfl, by decide +kernel, rfl, by decide +kernel, by decide +kernel⟩
abbrev s_is_groups : Stmt := topS 23
theorem sc_is_groups : FnScope ["thing", "ahead", "row", "group", "users"] ["thing"] (defScope s_is_groups) := ⟨rfl, rfl, rfl, by decide +kernel, rfl, by decide +kernel, by decide +kernel⟩
abbrev s_may : Stmt := topS 24
theorem sc_may : FnScope ["groups", "user", "sign", "owner", "group", "rights", "owners", "members", "others"] ["groups", "user", "sign", "owner", "group", "rights"] (defScope s_may) := ⟨rfl, rfl, rfl, by decide +kernel, rfl, by decide +kernel, by decide +kernel⟩
abbrev s__is_rights_text : Stmt := topS 25
theorem sc__is_rights_text : FnScope ["thing"] ["thing"] (defScope s__is_rights_text) := ⟨rfl, rfl, rfl, by decide +kernel, rfl, by decide +kernel, by decide +kernel⟩
abbrev s__is_members : Stmt := topS 26
theorem sc__is_members : FnScope ["thing", "ahead", "user"] ["thing"] (defScope s__is_members) := ⟨rfl, rfl, rfl, by decide +kernel, rfl, by decide +kernel, by decide +kernel⟩
abbrev s__users_of : Stmt := topS 27
theorem sc__users_of : FnScope ["groups", "group", "name", "users"] ["groups", "group"] (defScope s__users_of) := ⟨rfl, rfl, rfl, by decide +kernel, rfl, by decide +kernel, by decide +kernel⟩
abbrev s_is_count : Stmt := topS 30
theorem sc_is_count : FnScope ["thing"] ["thing"] (defScope s_is_count) := ⟨rfl, rfl, rfl, by decide +kernel, rfl, by decide +kernel, by decide +kernel⟩
abbrev s_is_tree_deed : Stmt := topS 34
theorem sc_is_tree_deed : FnScope ["thing", "word", "check"] ["thing"] (defScope s_is_tree_deed) := ⟨rfl, rfl, rfl, by decide +kernel, rfl, by decide +kernel, by decide +kernel⟩
abbrev s__is_of_path : Stmt := topS 35
theorem sc__is_of_path : FnScope ["deed"] ["deed"] (defScope s__is_of_path) := ⟨rfl, rfl, rfl, by decide +kernel, rfl, by decide +kernel, by decide +kernel⟩
abbrev s__is_cut : Stmt := topS 37
theorem sc__is_cut : FnScope ["deed"] ["deed"] (defScope s__is_cut) := ⟨rfl, rfl, rfl, by decide +kernel, rfl, by decide +kernel, by decide +kernel⟩
abbrev s__is_rights : Stmt := topS 38
theorem sc__is_rights : FnScope ["deed"] ["deed"] (defScope s__is_rights) := ⟨rfl, rfl, rfl, by decide +kernel, rfl, by decide +kernel, by decide +kernel⟩
abbrev s_Folder_init : Stmt := inClass (topS 54) 0
theorem sc_Folder_init : FnScope ["self", "owner", "group", "rights"] ["self", "owner", "group", "rights"] (defScope s_Folder_init) := ⟨rfl, rfl, rfl, by decide +kernel, rfl, by decide +kernel, by decide +kernel⟩
abbrev s_File_init : Stmt := inClass (topS 55) 0
theorem sc_File_init : FnScope ["self", "owner", "group", "rights"] ["self", "owner", "group", "rights"] (defScope s_File_init) := ⟨rfl, rfl, rfl, by decide +kernel, rfl, by decide +kernel, by decide +kernel⟩
abbrev s_give_rights : Stmt := topS 56
theorem sc_give_rights : FnScope ["node", "rights", "owners", "group", "others"] ["node", "rights"] (defScope s_give_rights) := ⟨rfl, rfl, rfl, by decide +kernel, rfl, by decide +kernel, by decide +kernel⟩
abbrev s_lets : Stmt := topS 57
theorem sc_lets : FnScope ["members", "user", "sign", "node", "owners", "group", "others"] ["members", "user", "sign", "node"] (defScope s_lets) := ⟨rfl, rfl, rfl, by decide +kernel, rfl, by decide +kernel, by decide +kernel⟩
abbrev s_gone_along : Stmt := topS 58
theorem sc_gone_along : FnScope ["members", "top", "path", "user", "node", "name", "names", "word"] ["members", "top", "path", "user"] (defScope s_gone_along) := ⟨rfl, rfl, rfl, by decide +kernel, rfl, by decide +kernel, by decide +kernel⟩
abbrev s_come_to : Stmt := topS 59
theorem sc_come_to : FnScope ["core", "user", "path", "node", "name", "names"] ["core", "user", "path"] (defScope s_come_to) := ⟨rfl, rfl, rfl, by decide +kernel, rfl, by decide +kernel, by decide +kernel⟩
abbrev s_file_at : Stmt := topS 61
theorem sc_file_at : FnScope ["core", "user", "path", "sign", "node"] ["core", "user", "path", "sign"] (defScope s_file_at) := ⟨rfl, rfl, rfl, by decide +kernel, rfl, by decide +kernel, by decide +kernel⟩
abbrev s_owns : Stmt := topS 62
theorem sc_owns : FnScope ["user", "node"] ["user", "node"] (defScope s_owns) := ⟨rfl, rfl, rfl, by decide +kernel, rfl, by decide +kernel, by decide +kernel⟩
abbrev s_shortened : Stmt := topS 67
theorem sc_shortened : FnScope ["parts", "many"] ["parts", "many"] (defScope s_shortened) := ⟨rfl, rfl, rfl, by decide +kernel, rfl, by decide +kernel, by decide +kernel⟩
abbrev s_gathered : Stmt := topS 68
theorem sc_gathered : FnScope ["parts", "pieces", "piece", "first", "many", "found"] ["parts", "pieces"] (defScope s_gathered) := ⟨rfl, rfl, rfl, by decide +kernel, rfl, by decide +kernel, by decide +kernel⟩
abbrev s__first_cells : Stmt := topS 70
theorem sc__first_cells : FnScope ["parts", "many", "taken", "left", "piece", "first", "here"] ["parts", "many"] (defScope s__first_cells) := ⟨rfl, rfl, rfl, by decide +kernel, rfl, by decide +kernel, by decide +kernel⟩
abbrev s__joined : Stmt := topS 72
theorem sc__joined : FnScope ["parts", "rows", "piece", "first", "many", "_", "start", "ahead"] ["parts"] (defScope s__joined) := ⟨rfl, rfl, rfl, by decide +kernel, rfl, by decide +kernel, by decide +kernel⟩
abbrev s__goes_on : Stmt := topS 73
theorem sc__goes_on : FnScope ["part", "piece", "first", "ahead", "start", "many"] ["part", "piece", "first"] (defScope s__goes_on) := ⟨rfl, rfl, rfl, by decide +kernel, rfl, by decide +kernel, by decide +kernel⟩
abbrev s_has_room : Stmt := topS 77
theorem sc_has_room : FnScope ["core", "folder", "user", "many"] ["core"] (defScope s_has_room) := ⟨rfl, rfl, rfl, by decide +kernel, rfl, by decide +kernel, by decide +kernel⟩
abbrev s_used : Stmt := topS 78
abbrev s_held : Stmt := topS 79
abbrev s_lapse : Stmt := topS 80
abbrev s_room_deed : Stmt := topS 81
abbrev s__strained_folders : Stmt := topS 85
abbrev s__strained_users : Stmt := topS 86
abbrev s_shape_deed : Stmt := topS 97
theorem sc_shape_deed : FnScope ["core", "user", "deed", "action"] ["core", "user", "deed"] (defScope s_shape_deed) := ⟨rfl, rfl, rfl, by decide +kernel, rfl, by decide +kernel, by decide +kernel⟩
abbrev s__folder_of : Stmt := topS 98
theorem sc__folder_of : FnScope ["core", "user", "path", "folder"] ["core", "user", "path"] (defScope s__folder_of) := ⟨rfl, rfl, rfl, by decide +kernel, rfl, by decide +kernel, by decide +kernel⟩
abbrev s__new_place : Stmt := topS 99
theorem sc__new_place : FnScope ["core", "user", "path", "folder"] ["core", "user", "path"] (defScope s__new_place) := ⟨rfl, rfl, rfl, by decide +kernel, rfl, by decide +kernel, by decide +kernel⟩
abbrev s__old_place : Stmt := topS 100
theorem sc__old_place : FnScope ["core", "user", "path", "folder"] ["core", "user", "path"] (defScope s__old_place) := ⟨rfl, rfl, rfl, by decide +kernel, rfl, by decide +kernel, by decide +kernel⟩
abbrev s__make : Stmt := topS 101
theorem sc__make : FnScope ["core", "user", "deed", "word", "path", "place"] ["core", "user", "deed"] (defScope s__make) := ⟨rfl, rfl, rfl, by decide +kernel, rfl, by decide +kernel, by decide +kernel⟩
abbrev s__strike : Stmt := topS 104
theorem sc__strike : FnScope ["core", "user", "deed", "path", "place", "node"] ["core", "user", "deed"] (defScope s__strike) := ⟨rfl, rfl, rfl, by decide +kernel, rfl, by decide +kernel, by decide +kernel⟩
abbrev s__cut : Stmt := topS 105
theorem sc__cut : FnScope ["core", "user", "deed", "_", "path", "many", "file"] ["core", "user", "deed"] (defScope s__cut) := ⟨rfl, rfl, rfl, by decide +kernel, rfl, by decide +kernel, by decide +kernel⟩
abbrev s__rights : Stmt := topS 106
theorem sc__rights : FnScope ["core", "user", "deed", "_", "path", "owner", "group", "rights", "node", "ahead"] ["core", "user", "deed"] (defScope s__rights) := ⟨rfl, rfl, rfl, by decide +kernel, rfl, by decide +kernel, by decide +kernel⟩
abbrev s_telling_deed : Stmt := topS 109
abbrev s_told_of_path : Stmt := topS 110
theorem sc_told_of_path : FnScope ["core", "user", "deed", "word", "path", "top", "name", "node"] ["core", "user", "deed"] (defScope s_told_of_path) := ⟨rfl, rfl, rfl, by decide +kernel, rfl, by decide +kernel, by decide +kernel⟩
abbrev s__looked : Stmt := topS 112
theorem sc__looked : FnScope ["node", "size"] ["node"] (defScope s__looked) := ⟨rfl, rfl, rfl, by decide +kernel, rfl, by decide +kernel, by decide +kernel⟩
abbrev s__told_of : Stmt := topS 113
theorem sc__told_of : FnScope ["core", "user", "node", "word", "names", "name"] ["core", "user", "node", "word"] (defScope s__told_of) := ⟨rfl, rfl, rfl, by decide +kernel, rfl, by decide +kernel, by decide +kernel⟩
abbrev s_Core_init : Stmt := inClass (topS 125) 0
theorem sc_Core_init : FnScope ["self", "groups", "group", "users"] ["self", "groups"] (defScope s_Core_init) := ⟨rfl, rfl, rfl, by decide +kernel, rfl, by decide +kernel, by decide +kernel⟩
abbrev s_Core_act : Stmt := inClass (topS 125) 1
theorem sc_Core_act : FnScope ["self", "when", "user", "deed", "word"] ["self", "when", "user", "deed"] (defScope s_Core_act) := ⟨rfl, rfl, rfl, by decide +kernel, rfl, by decide +kernel, by decide +kernel⟩
abbrev s_wanted_parts : Stmt := topS 127
theorem sc_wanted_parts : FnScope ["word", "raw", "inner"] ["word", "raw"] (defScope s_wanted_parts) := ⟨rfl, rfl, rfl, by decide +kernel, rfl, by decide +kernel, by decide +kernel⟩
abbrev s_filled : Stmt := topS 128
abbrev s_Grove_init : Stmt := inClass (topS 130) 0
theorem sc_Grove_init : FnScope ["self", "groups"] ["self", "groups"] (defScope s_Grove_init) := ⟨rfl, rfl, rfl, by decide +kernel, rfl, by decide +kernel, by decide +kernel⟩
abbrev s_Grove_reply : Stmt := inClass (topS 130) 1
theorem sc_Grove_reply : FnScope ["self", "when", "user", "deed", "word", "raw", "wanted"] ["self", "when", "user", "deed"] (defScope s_Grove_reply) := ⟨rfl, rfl, rfl, by decide +kernel, rfl, by decide +kernel, by decide +kernel⟩
abbrev s_Grove_with_cells : Stmt := inClass (topS 130) 3
theorem sc_Grove_with_cells : FnScope ["self", "raw"] ["self", "raw"] (defScope s_Grove_with_cells) := ⟨rfl, rfl, rfl, by decide +kernel, rfl, by decide +kernel, by decide +kernel⟩
abbrev s_Grove_put : Stmt := inClass (topS 130) 4
abbrev s_Tree_init : Stmt := inClass (topS 132) 0
theorem sc_Tree_init : FnScope ["self", "groups"] ["self", "groups"] (defScope s_Tree_init) := ⟨rfl, rfl, rfl, by decide +kernel, rfl, by decide +kernel, by decide +kernel⟩
abbrev s_Tree_do : Stmt := inClass (topS 132) 1
theorem sc_Tree_do : FnScope ["self", "tick", "user", "deed", "core", "raw"] ["self", "tick", "user", "deed"] (defScope s_Tree_do) := ⟨rfl, rfl, rfl, by decide +kernel, rfl, by decide +kernel, by decide +kernel⟩
abbrev s__law_purse : Stmt := topS 134
theorem sc__law_purse : FnScope ["_law_script", "_law_k", "_law_cell"] ["_law_script", "_law_k"] (defScope s__law_purse) := ⟨rfl, rfl, rfl, by decide +kernel, rfl, by decide +kernel, by decide +kernel⟩
abbrev s__law_take : Stmt := topS 135
theorem sc__law_take : FnScope ["_law_purse_here", "_law_many", "_law_found"] ["_law_purse_here", "_law_many"] (defScope s__law_take) := ⟨rfl, rfl, rfl, by decide +kernel, rfl, by decide +kernel, by decide +kernel⟩
abbrev s__law_people : Stmt := topS 136
theorem sc__law_people : FnScope ["_law_purse_here", "_law_stem", "_law_at", "_law_found", "_law_turn"] ["_law_purse_here"] (defScope s__law_people) := ⟨rfl, rfl, rfl, by decide +kernel, rfl, by decide +kernel, by decide +kernel⟩
abbrev s__law_clubs : Stmt := topS 137
theorem sc__law_clubs : FnScope ["_law_purse_here", "_law_people_here", "_law_found", "_law_clan", "_law_one"] ["_law_purse_here", "_law_people_here"] (defScope s__law_clubs) := ⟨rfl, rfl, rfl, by decide +kernel, rfl, by decide +kernel, by decide +kernel⟩
abbrev s__law_grants : Stmt := topS 138
theorem sc__law_grants : FnScope ["_law_purse_here", "_law_turn"] ["_law_purse_here"] (defScope s__law_grants) := ⟨rfl, rfl, rfl, by decide +kernel, rfl, by decide +kernel, by decide +kernel⟩
abbrev s__law_let : Stmt := topS 139
theorem sc__law_let : FnScope ["_law_folk", "_law_person", "_law_mark", "_law_lord", "_law_clan", "_law_grants_here", "_law_inside", "_law_name", "_law_some", "_law_own"] ["_law_folk", "_law_person", "_law_mark", "_law_lord", "_law_clan", "_law_grants_here"] (defScope s__law_let) := ⟨rfl, rfl, rfl, by decide +kernel, rfl, by decide +kernel, by decide +kernel⟩
abbrev s__law_made : Stmt := topS 140
theorem sc__law_made : FnScope ["_law_folk", "_law_things", "_law_tree", "_law_deeds", "_law_told", "_law_deed"] ["_law_folk", "_law_things"] (defScope s__law_made) := ⟨rfl, rfl, rfl, by decide +kernel, rfl, by decide +kernel, by decide +kernel⟩
abbrev s__law_due : Stmt := topS 141
theorem sc__law_due : FnScope ["_law_let_here"] ["_law_let_here"] (defScope s__law_due) := ⟨rfl, rfl, rfl, by decide +kernel, rfl, by decide +kernel, by decide +kernel⟩
abbrev s__law_one_right : Stmt := topS 142
theorem sc__law_one_right : FnScope ["_law_tree", "_law_folk", "_law_person", "_law_things", "_law_lets", "_law_lord", "_law_clan", "_law_grants_here", "_law_row", "_law_mark", "_law_through", "_law_make", "_law_read", "_law_write", "_law_due_here", "_law_told"] ["_law_tree", "_law_folk", "_law_person", "_law_things"] (defScope s__law_one_right) := ⟨rfl, rfl, rfl, by decide +kernel, rfl, by decide +kernel, by decide +kernel⟩
abbrev s_law : Stmt := topS 143
theorem sc_law : FnScope ["_law_script", "_law_k", "_law_purse_here", "_law_people_here", "_law_turn", "_law_folk", "_law_things", "_law_thing", "_law_lord", "_law_clan", "_law_tree", "_law_good", "_law_person", "_law_more", "_law_some", "_law_other"] ["_law_script"] (defScope s_law) := ⟨rfl, rfl, rfl, by decide +kernel, rfl, by decide +kernel, by decide +kernel⟩
def spLaw (K : PySem.W.Frag) : Sp := fun vs H Q _ => ∃ (a : Addr) (ns : List Int), vs = [.ref a] ∧ SqL K H a (ns.map V.int) ∧ ns.length ≤ 63 ∧ ∀ H', Q (.bl true) H'
end K05
set_option Elab.async false
set_option linter.all false
set_option maxRecDepth 100000
set_option maxHeartbeats 4000000
namespace K05
open PySem PySem.Spec PyProof.Rows L2 FB RZ
structure Cs where
  Folder : Addr
  File : Addr
  Core : Addr
  Grove : Addr
  Tree : Addr
  Promise : Addr
structure As where
  DONE : Addr
  NO_RIGHT : Addr
  NO_ROOM : Addr
  NEW_RIGHTS : Addr
  PATH_WORDS : Addr
  GLANCED : Addr
  RIGHTS_TEXTS : Addr
  SIGNS : Addr
  FORMS : Addr
  TREE_FORMS : Addr
  ACTIONS_shapes : Addr
  SHAPING : Addr
  ROOMY : Addr
  t_ROOT : Tok
  t_LETTERS : Tok
  t_MOST_LETTERS : Tok
  t_MOST_NAMES : Tok
  t_MOST_GROUPS : Tok
/-- what the module's names hold -/
structure Tx (P : Program) (K : PySem.W.Frag) (mg : Str → Option Value) (cs : Cs) (A_ : As) : Prop where
  len : mg "len" = none
  all : mg "all" = none
  any : mg "any" = none
  isinstance : mg "isinstance" = none
  repr : mg "repr" = none
  str : mg "str" = none
  tuple : mg "tuple" = none
  bool : mg "bool" = none
  int : mg "int" = none
  list : mg "list" = none
  max : mg "max" = none
  min : mg "min" = none
  range : mg "range" = none
  sum : mg "sum" = none
  dict : mg "dict" = none
  sorted : mg "sorted" = none
  set : mg "set" = none
  zip : mg "zip" = none
  N : NodeK K cs.Folder cs.File
  KD : KindK K cs.Folder cs.File
  CO : CoreK K cs.Core
  neF : cs.Folder ≠ cs.Core
  neL : cs.File ≠ cs.Core
  nT : ∀ f ∈ (["core", "pieces"] : List Str), NoAttr K cs.Tree f
  g_Folder : mg "Folder" = some (.ref cs.Folder)
  cl_Folder : Cls K cs.Folder
  g_File : mg "File" = some (.ref cs.File)
  cl_File : Cls K cs.File
  g_Core : mg "Core" = some (.ref cs.Core)
  cl_Core : Cls K cs.Core
  g_Grove : mg "Grove" = some (.ref cs.Grove)
  cl_Grove : Cls K cs.Grove
  g_Tree : mg "Tree" = some (.ref cs.Tree)
  cl_Tree : Cls K cs.Tree
  g_Promise : mg "Promise" = some (.ref cs.Promise)
  cl_Promise : Cls K cs.Promise
  c_ROOT : mg "ROOT" = some (.str "root" A_.t_ROOT)
  c_LETTERS : mg "LETTERS" = some (.str "abcdefghijklmnopqrstuvwxyz" A_.t_LETTERS)
  c_MOST_LETTERS : mg "MOST_LETTERS" = some (.int 8 A_.t_MOST_LETTERS)
  c_MOST_NAMES : mg "MOST_NAMES" = some (.int 6 A_.t_MOST_NAMES)
  c_MOST_GROUPS : mg "MOST_GROUPS" = some (.int 8 A_.t_MOST_GROUPS)
  c_DONE : mg "DONE" = some (.ref A_.DONE)
  q_DONE : ∀ H : Hp, SqT K H A_.DONE [.str "done"]
  c_NO_RIGHT : mg "NO_RIGHT" = some (.ref A_.NO_RIGHT)
  q_NO_RIGHT : ∀ H : Hp, SqT K H A_.NO_RIGHT [.str "no", .str "noright"]
  c_NO_ROOM : mg "NO_ROOM" = some (.ref A_.NO_ROOM)
  q_NO_ROOM : ∀ H : Hp, SqT K H A_.NO_ROOM [.str "no", .str "noroom"]
  c_NEW_RIGHTS : mg "NEW_RIGHTS" = some (.ref A_.NEW_RIGHTS)
  q_NEW_RIGHTS : ∀ H : Hp, SqT K H A_.NEW_RIGHTS [.str "rw", .str "r", .str "r"]
  c_PATH_WORDS : mg "PATH_WORDS" = some (.ref A_.PATH_WORDS)
  q_PATH_WORDS : ∀ H : Hp, SqT K H A_.PATH_WORDS [.str "read", .str "list", .str "look"]
  c_GLANCED : mg "GLANCED" = some (.ref A_.GLANCED)
  q_GLANCED : ∀ H : Hp, SqT K H A_.GLANCED [.str "read", .str "list", .str "look"]
  c_RIGHTS_TEXTS : mg "RIGHTS_TEXTS" = some (.ref A_.RIGHTS_TEXTS)
  q_RIGHTS_TEXTS : ∀ H : Hp, SqT K H A_.RIGHTS_TEXTS [.str "", .str "r", .str "w", .str "rw"]
  c_SIGNS : mg "SIGNS" = some (.ref A_.SIGNS)
  q_SIGNS : ∀ H : Hp, SqT K H A_.SIGNS [.str "r", .str "w"]
  c_FORMS : mg "FORMS" = some (.ref A_.FORMS)
  c_TREE_FORMS : mg "TREE_FORMS" = some (.ref A_.TREE_FORMS)
  c_ACTIONS_shapes : mg "ACTIONS_shapes" = some (.ref A_.ACTIONS_shapes)
  c_SHAPING : mg "SHAPING" = some (.ref A_.SHAPING)
  c_ROOMY : mg "ROOMY" = some (.ref A_.ROOMY)
end K05
set_option Elab.async false
set_option linter.all false
set_option maxRecDepth 100000
set_option maxHeartbeats 4000000
namespace K05
open PySem PySem.Spec PyProof.Rows L2 FB RZ
section
variable {P : Program} {w : World} {K : PySem.W.Frag} {mg : Str → Option Value} {base : Heap} {cs : Cs} {A_ : As}
theorem open_may {fo : Fo} {user : Str} {n : Nd} : (!opn n && !mayN fo user 114 n) = !mayN fo user 114 n := by
  refine' @FB.also _ _ ?_ ?_ ?_; rotate_left
  · intro wit__; simp only [↓FB.viaW wit__ (by
      clear wit__
      cases h : opn n with
      | false => rfl
      | true => rw [may_open h]; rfl)]
  intro b q h; simpa using FB.pinF b h
  eq_refl
theorem dec_str {x y : Str} : V.bl (decide (V.str x = V.str y)) = V.bl (decide (x = y)) := by
  refine' @FB.also _ _ ?_ ?_ ?_; rotate_left
  · intro wit__; simp only [↓FB.viaW wit__ (by
      clear wit__
      congr 1
      exact decide_eq_decide.mpr ⟨fun e => by injection e, fun e => by rw [e]⟩)]
  intro b q h; simpa using FB.pinF b h
  eq_refl
theorem ok_lets (T : Tx P K mg cs A_) (d_lets : Df K mg "lets" s_lets ["members", "user", "sign", "node"]) : FnOk P w K mg base CX0 1 d_lets.f d_lets.fd ["members", "user", "sign", "node"] (spLets K cs.Folder cs.File) := by
  refine' @FB.also _ _ ?_ ?_ ?_; rotate_left
  · intro wit__; simp only [↓FB.viaW wit__ (by
      clear wit__
      refine d_lets.F.ok sc_lets (fun vs H Q E ⟨_, _, _, _, _, _, _, _, e, _⟩ => by rw [e]; rfl) (fun cdv A outer s H vs Q E hr h => ?_)
      obtain ⟨z, qm, fo, ws, user, c, a, n, rfl, hz, nq, hm, na, hn, hrt, q⟩ := h
      refine ⟨_, (pss_cons (ps_if (pt_cmpR op_eq (pv 1) (pe_glob (v := .str "root") (by rfl) T.c_ROOT ⟨_, rfl⟩) (nomark _))
        (pss_one (ps_ret pe_bl))
        pss_nil)
        (pss_cons (ps_asg (k_fld (K := K) (pv 3) rfl) (k_pgt (K := K) (n := 3) (pgs_cons (pg_name (i := 4) sc_lets.nd rfl (Or.inl rfl)) (pgs_cons (pg_name (i := 5) sc_lets.nd rfl (Or.inl rfl)) (pgs_cons (pg_name (i := 6) sc_lets.nd rfl (Or.inl rfl)) pgs_nil)))))
        (pss_cons (ps_if (pt_cmpR op_eq (pv 1) (k_fld (K := K) (pv 3) rfl) (nomark _))
        (pss_one (ps_ret (pe_cmpR op_in_sign (pv 2) (pv 4) (by rfl))))
        pss_nil)
        (pss_cons (ps_if (PW.pt (pw_and (pt_cmp (pc_din (lt1 hr.units) (k_fld (K := K) (pv 3) rfl) (pv 0)) (by rfl)) (pw_and1 (pt_cmpR (k_in (K := K)) (pv 1) (pe_dget (lt1 hr.units) (pv 0) (k_fld (K := K) (pv 3) rfl) (fun _ _ => rfl)) (by rfl)))))
        (pss_one (ps_ret (pe_cmpR op_in_sign (pv 2) (pv 5) (by rfl))))
        pss_nil)
        (pss_one (ps_ret (pe_cmpR op_in_sign (pv 2) (pv 6) (by rfl)))))))), ?_⟩
      have fin : ∀ {H' : Hp} {v' : V} {b : Bool}, mayN fo user c n = b → z.R H H' → (∀ H2, z.W H' H2 → Is (.bl b) v' H2) → Q v' H' := fun {H' v' b} e r f => by
        have e' : v' = .bl b := f H' .refl
        rw [e', ← e]
        exact q H' r
      refine q_if (z := z) hz (et_test (ev_eq (ev_is rfl) ev_k rfl)) (fun hb H1 r1 => ?_) (fun hb H1 r1 => ?_)
      · refine s_ret (z := z) (φ := Is (.bl true)) r1.dr ev_k fun v' H2 r2 f => fin ?_ (r1.tr r2) f
        have e3 : user = "root" := by
          have := of_decide_eq_true hb
          injection this
        unfold mayN mayB
        rw [if_pos e3]
      have n0 : ¬ user = "root" := fun e => (of_decide_eq_false hb) (by rw [e])
      refine q_un3K (z := z) (K := K) (rt := n.rt) r1.dr (fun H2 r2 => hrt.sq (r1.tr r2).w) (ev_nd T.N na (hn.go na r1) (by simp [ndF]) (nd_rights n) (ev_is rfl)) fun H2 r2 => ?_
      have r12 := r1.tr r2
      refine q_if (z := z) r2.dr (et_test (ev_eq (ev_is rfl) (ev_nd T.N na (hn.go na r12) (by simp [ndF]) (nd_owner n) (ev_is rfl)) rfl)) (fun hb H3 r3 => ?_) (fun hb H3 r3 => ?_)
      · refine s_ret (z := z) (φ := Is (.bl (inC c n.r1))) r3.dr (ev_inC (ev_is rfl) (ev_is rfl)) fun v' H4 r4 f => fin ?_ (r12.tr (r3.tr r4)) f
        have e3 : user = n.ow := by
          have := of_decide_eq_true hb
          injection this
        unfold mayN mayB
        rw [if_neg n0, if_pos e3]
      have n1 : ¬ user = n.ow := fun e => (of_decide_eq_false hb) (by rw [e])
      have r13 := r12.tr r3
      have hm3 := hm.go nq r13
      have hn3 := hn.go na r13
      have own : ∀ {H' : Hp} {σ : L2.St}, z.R H3 H' → σ[3]? = some (some (.ref a)) → Ev z (tFld K (tVar 3) "group") σ H' (Is (.str n.gr)) := fun r e => ev_nd T.N na (hn3.go na r) (by simp [ndF]) (nd_group n) (ev_is e)
      have fl : ((usF fo n.gr).map V.str).all flatV = true := by simp [List.all_eq_true, flatV]
      refine q_if (z := z) (b := inV (.str user) ((usF fo n.gr).map V.str)) r3.dr ?_ (fun hb H4 r4 => ?_) (fun hb H4 r4 => ?_)
      · rcases mem_get (g := n.gr) hm3.da with ⟨e1, e2⟩ | ⟨v, e1, dv⟩
        · refine et_to (et_and (a := false) (b := true) (et_B (ev_to (ev_din (z := z) (x := n.gr) nq hm3.at_ (fun H4 r4 => ev_is rfl) (own r3.dr rfl)) (by rw [e1]; rfl))) fun h => by cases h) ?_
          rw [e2]
          rfl
        · obtain ⟨p, us, rfl, np, hp, du⟩ := DU.tupAt dv
          have eu := dua_strs du
          subst eu
          refine et_to (et_and (a := true) (b := inV (.str user) ((usF fo n.gr).map V.str)) (et_B (ev_to (ev_din (z := z) (x := n.gr) nq hm3.at_ (fun H4 r4 => ev_is rfl) (own r3.dr rfl)) (by rw [e1]; rfl))) fun _ => et_test (ev_inT (xs := (usF fo n.gr).map V.str) (ev_is rfl) (fun H4 r4 => (ev_dgetS (z := z) (x := n.gr) nq (hm3.go nq r4).at_ (ev_is rfl) (fun H5 r5 => own (r4.tr r5) rfl) e1).imp fun v' H' w e => ?_) rfl fl)) (by rw [Bool.true_and])
          have e' : v' = .ref p := e
          exact ⟨p, _, e', np, (w p _ np (r4.w p _ np hp)), rfl⟩
      · refine s_ret (z := z) (φ := Is (.bl (inC c n.r2))) r4.dr (ev_inC (ev_is rfl) (ev_is rfl)) fun v' H5 r5 f => fin ?_ (r13.tr (r4.tr r5)) f
        unfold mayN mayB
        rw [if_neg n0, if_neg n1, if_pos hb]
      · refine s_ret (z := z) (φ := Is (.bl (inC c n.r3))) r4.dr (ev_inC (ev_is rfl) (ev_is rfl)) fun v' H5 r5 f => fin ?_ (r13.tr (r4.tr r5)) f
        unfold mayN mayB
        rw [if_neg n0, if_neg n1, if_neg (by rw [hb]; simp)])]
  intro b q h; simpa using FB.pinF b h
  eq_refl
theorem ok_gone (T : Tx P K mg cs A_) (d_gone_along : Df K mg "gone_along" s_gone_along ["members", "top", "path", "user"]) (d_is_path : Df K mg "is_path" s_is_path ["thing"]) (d_lets : Df K mg "lets" s_lets ["members", "user", "sign", "node"])
    (G_is_path : FnOk P w K mg base CX0 2 d_is_path.f d_is_path.fd ["thing"] (spLook Tl isPathD)) (G_lets : FnOk P w K mg base CX0 1 d_lets.f d_lets.fd ["members", "user", "sign", "node"] (spLets K cs.Folder cs.File)) :
    FnOk P w K mg base CX0 3 d_gone_along.f d_gone_along.fd ["members", "top", "path", "user"] (spGone K cs.Folder cs.File) := by
  refine' @FB.also _ _ ?_ ?_ ?_; rotate_left
  · intro wit__; simp only [↓FB.viaW wit__ (by
      clear wit__
      refine d_gone_along.F.ok sc_gone_along (fun vs H Q E ⟨_, _, _, _, _, _, _, _, _, e, _⟩ => by rw [e]; rfl) (fun cdv A outer s H vs Q E hr h => ?_)
      obtain ⟨z, qm, top, fo, ws, user, v, xs, N, rfl, hz, nq, hm, hv, hp0, ht, ⟨n0, hn0⟩, q⟩ := h
      have hl := hp0.1
      refine ⟨_, (pss_cons (ps_if (PW.pt (pw_or (pt_not (pt_val (pe_callB (k_isi (K := K)) (by rfl) T.isinstance (by decide +kernel) (pa_cons (pv 2) (pa_cons (pe_bltn (v := .ty "tuple") (by rfl) T.tuple (by decide +kernel) rfl) pa_nil))))) (pw_or1 (pt_cmpR op_gt (pe_callB (k_len (K := K)) (by rfl) T.len PySem.boot_len (pa_cons (pv 2) pa_nil)) (pe_glob (v := .int 6) (by rfl) T.c_MOST_NAMES ⟨_, rfl⟩) (nomark _)))))
        (pss_one (ps_ret pe_non))
        pss_nil)
        (pss_cons (ps_set (i := 4) sc_gone_along.nd rfl (.inl rfl) (pv 1))
        (pss_cons (ps_for PassesOwn.never rfl (k_pit (K := K) (pi_tup (pv 2))) (pg_name (i := 5) sc_gone_along.nd rfl (Or.inl rfl))
        (pss_cons (ps_if (pt_not (pt_val (pe_callB (k_isi (K := K)) (by rfl) T.isinstance (by decide +kernel) (pa_cons (pv 5) (pa_cons (pe_bltn (v := .ty "str") (by rfl) T.str (by decide +kernel) rfl) pa_nil)))))
        (pss_one (ps_ret pe_non))
        pss_nil)
        (pss_cons (ps_set (i := 6) sc_gone_along.nd rfl (.inl rfl) (k_fld (K := K) (pv 4) rfl))
        (pss_cons (ps_if (pt_cmpR op_isN (pv 6) pe_non (nomark _))
        (pss_one (ps_set (i := 7) sc_gone_along.nd rfl (.inl rfl) pe_str))
        (pss_one (ps_if (PW.pt (pw_and (pt_not (pt_val (k_fld (K := K) (pv 4) rfl))) (pw_and1 (pt_not (pt_val (pe_call G_lets (hr.mono (by decide)) (by rfl) d_lets.g d_lets.F.kp d_lets.b .nil pass0 (pa_cons (pv 0) (pa_cons (pv 3) (pa_cons pe_str (pa_cons (pv 4) pa_nil))))))))))
        (pss_one (ps_set (i := 7) sc_gone_along.nd rfl (.inl rfl) pe_str))
        (pss_one (ps_if (pt_cmp (pc_dnotin (lt1 hr.units) (pv 5) (pv 6)) (by rfl))
        (pss_one (ps_set (i := 7) sc_gone_along.nd rfl (.inl rfl) pe_str))
        (pss_cons (ps_set (i := 4) sc_gone_along.nd rfl (.inl rfl) (pe_dget (lt1 hr.units) (pv 6) (pv 5) (fun _ _ => rfl)))
        (pss_one ps_continue)))))))
        (pss_one (ps_ret (pe_ifExp (pt_val (pe_call G_is_path (hr.mono (by decide)) (by rfl) d_is_path.g d_is_path.F.kp d_is_path.b .nil pass0 (pa_cons (pv 2) pa_nil))) (pv 7) pe_non)))))))
        (pss_one (ps_ret (pv 4)))))), ?_⟩
      obtain ⟨p, us, rfl, np, hp, du⟩ := DU.tupAt hv
      have eu := dua_strs du
      subst eu
      refine q_if (z := z) (b := false) hz (et_to (et_or (a := false) (b := false) (et_not (et_B (ev_isi (d := paS xs) (ev_var rfl fun H' w => hv.w w) (kit_tup _)))) fun _ => et_test (ev_to (ev_i0 (g := fun i j => .bl (decide (j < i))) (ev_lenT (ev_tupv rfl np hp)) ev_k) (by rw [List.length_map, decide_eq_false (by omega)]))) rfl) (fun hb => by cases hb) fun _ H1 r1 => ?_
      refine q_set (z := z) (φ := Is (.ref top)) r1.dr (ev_is rfl) fun v4 H2 r2 f2 => ?_
      have e4 := f2 H2 .refl
      subst e4
      have r12 := r1.tr r2
      refine q_forTG (z := z) (xs := xs.map V.str) r2.dr (ev_tupv rfl np (r12.w p _ np hp)) fun H3 r3 => ?_
      have r13 := r12.tr r3
      refine ⟨fun i σ' H' => z.R H3 H' ∧ ∃ a o5 o6 o7, goN N fo user xs top = goN N fo user (xs.drop i) a ∧ (∃ n, N a = some n) ∧ σ' = [some (.ref qm), some (.ref top), some (.ref p), some (.str user), some (.ref a), o5, o6, o7],
        ⟨r3.dr, top, none, none, none, rfl, ⟨n0, hn0⟩, rfl⟩, fun i σ' H' hP => hP.1.w, fun i x σ' H' hx hP => ?_, fun σ' H' hP => ?_⟩
      · obtain ⟨r4, a, o5, o6, o7, eg, ⟨n, hn⟩, rfl⟩ := hP
        rw [List.getElem?_map] at hx
        obtain ⟨y, hy, rfl⟩ := Option.map_eq_some_iff.mp hx
        have hi := (List.getElem?_eq_some_iff.mp hy).1
        have ed : xs.drop i = y :: xs.drop (i + 1) := by
          rw [List.drop_eq_getElem_cons hi, (List.getElem?_eq_some_iff.mp hy).2]
        rw [ed] at eg
        have egn : goN N fo user (y :: xs.drop (i + 1)) a = if n.nm = none then .inl "nofolder" else if mayN fo user 114 n = false then .inl "noright" else match kidOf n.kids y with
          | none => .inl "nothere"
          | some b => goN N fo user (xs.drop (i + 1)) b := by
          show (match N a with
            | none => _
            | some n => _) = _
          rw [hn]
          try rfl
        rw [egn] at eg
        show tSeq _ _ _ _ _
        refine q_if (z := z) (b := false) r4.dr (et_to (et_not (et_B (ev_isi (d := .str y) (ev_var rfl fun H' w => .str y) (kit_str _)))) rfl) (fun hb => by cases hb) fun _ H5 r5 => ?_
        have r15 := (r13.tr r4).tr r5
        have t5 := ht.go r15
        obtain ⟨na, hna, hrt⟩ := t5.at_ a n hn
        refine q_set (z := z) (φ := Is (nmV n.nm)) r5.dr (ev_nd T.N na hna (by simp [ndF]) (nd_names n) (ev_is rfl)) fun v6 H6 r6 f6 => ?_
        have e6 := f6 H6 .refl
        subst e6
        have r16 := r15.tr r6
        -- what is told of a WORD
        have out : ∀ {H7 : Hp} {wd : Str} {D : Ends}, z.R H6 H7 → goN N fo user xs top = .inl wd → (D.rt = Q) → tRet (tIf (tB (tCall (spLook Tl isPathD) [] E0 (tCons (tVar 2) tNil))) (tVar 7) (tC .non)) D [some (.ref qm), some (.ref top), some (.ref p), some (.str user), some (.ref a), some (.str y), some (nmV n.nm), some (.str wd)] H7 := fun {H7 wd D} r7 e er => by
          refine s_ret (z := z) (φ := Is (.str wd)) r7.dr (ev_if (b := true) (et_B (ev_to (ev_look (ok := Tl) (f := isPathD) (d := paS xs) (ev_var rfl fun H' w => (hv.w (r16.tr r7).w).w w) (path_Tl hp0)) (by rw [path_isP hp0]))) (fun _ => ev_is rfl) fun h => by cases h) fun v' H8 r8 f => ?_
          have e' : v' = .str wd := f H8 .refl
          rw [er, e']
          have := q H8 (r16.tr (r7.tr r8))
          rw [e] at this
          exact this
        refine q_ifE (z := z) r6.dr (et_test (ev_isN (ev_is rfl))) (fun hb H7 r7 => ?_) (fun hb H7 r7 => ?_)
        · have hnm : n.nm = none := by
            have := of_decide_eq_true hb
            cases e : n.nm with
            | none => rfl
            | some d => rw [e] at this; cases this
          rw [if_pos hnm] at eg
          refine s_set (z := z) (φ := Is (.str "nofolder")) r7.dr ev_k fun v7 H8 r8 f8 => ?_
          have e7 := f8 H8 .refl
          subst e7
          exact out (r7.tr r8) eg rfl
        · have hnm : ¬ n.nm = none := fun e => (of_decide_eq_false hb) (by rw [e]; rfl)
          obtain ⟨d, ed2⟩ : ∃ d, n.nm = some d := by
            cases e : n.nm with
            | none => exact absurd e hnm
            | some d => exact ⟨d, rfl⟩
          rw [if_neg hnm] at eg
          have r17 := r16.tr r7
          have t7 := ht.go r17
          obtain ⟨na7, hna7, hrt7⟩ := t7.at_ a n hn
          obtain ⟨nd, hd⟩ := t7.kd a n d hn ed2
          refine s_if (z := z) (b := !mayN fo user 114 n) r7.dr (et_to (et_and (a := !n.op) (b := !mayN fo user 114 n) (et_not (et_B (ev_nd T.N na7 hna7 (by simp [ndF]) (nd_op n) (ev_is rfl)))) fun _ => et_not (et_B (ev_lets nq (hm.go nq r17) na7 hna7 hrt7 (ev_is rfl) (fun _ _ => ev_is rfl) (fun _ _ => ev_k) fun _ _ => ev_is rfl))) (by rw [ht.op a n hn]; exact open_may)) (fun hb2 H8 r8 => ?_) (fun hb2 H8 r8 => ?_)
          · have hmay : mayN fo user 114 n = false := by simpa using hb2
            rw [if_pos hmay] at eg
            refine s_set (z := z) (φ := Is (.str "noright")) r8.dr ev_k fun v7 H9 r9 f9 => ?_
            have e7 := f9 H9 .refl
            subst e7
            exact out (r7.tr (r8.tr r9)) eg rfl
          · have hno : ¬ mayN fo user 114 n = false := fun h1 => by
              rw [h1] at hb2
              cases hb2
            rw [if_neg hno] at eg
            have r18 := r17.tr r8
            have hd8 := r8.kp d _ nd hd
            have names : ∀ {H' : Hp} {σ : L2.St}, σ[6]? = some (some (nmV n.nm)) → Ev z (tVar 6) σ H' (Is (.ref d)) := fun e => by
              rw [ed2] at e
              exact ev_is e
            refine s_if (z := z) (b := (kidOf n.kids y).isNone) r8.dr (et_B (ev_to (ev_dnin (z := z) (x := y) nd hd8 (fun _ _ => names rfl) (ev_is rfl)) (by rw [kids_val]; cases kidOf n.kids y <;> rfl))) (fun hb3 H9 r9 => ?_) (fun hb3 H9 r9 => ?_)
            · have ek : kidOf n.kids y = none := Option.isNone_iff_eq_none.mp hb3
              rw [ek] at eg
              refine s_set (z := z) (φ := Is (.str "nothere")) r9.dr ev_k fun v7 H10 r10 f10 => ?_
              have e7 := f10 H10 .refl
              subst e7
              exact out (r7.tr (r8.tr (r9.tr r10))) eg rfl
            · cases ek : kidOf n.kids y with
              | none => rw [ek] at hb3; cases hb3
              | some b =>
                rw [ek] at eg
                obtain ⟨m, hm2⟩ := ht.ok a n y b hn (kidOf_mem ek)
                refine q_set (z := z) (i := 4) (φ := Is (.ref b)) r9.dr (ev_dgetS (z := z) (x := y) nd (r9.kp d _ nd hd8) (names rfl) (fun _ _ => ev_is rfl) (by rw [kids_val, ek]; rfl)) fun v4 H10 r10 f10 => ?_
                have e4 := f10 H10 .refl
                subst e4
                exact ⟨(r4.tr r5).tr (r6.tr (r7.tr (r8.tr (r9.tr r10)))), b, _, _, _, eg, ⟨m, hm2⟩, rfl⟩
      · obtain ⟨r4, a, o5, o6, o7, eg, ⟨n, hn⟩, rfl⟩ := hP
        rw [List.length_map, List.drop_length] at eg
        refine s_ret (z := z) (φ := Is (.ref a)) r4.dr (ev_is rfl) fun v' H5 r5 f => ?_
        have e' : v' = .ref a := f H5 .refl
        have := q H5 (r13.tr (r4.tr r5))
        rw [eg] at this
        rw [e']
        exact this)]
  intro b q h; simpa using FB.pinF b h
  eq_refl
theorem ok_come (T : Tx P K mg cs A_) (d_come_to : Df K mg "come_to" s_come_to ["core", "user", "path"]) (d_lets : Df K mg "lets" s_lets ["members", "user", "sign", "node"])
    (G_lets : FnOk P w K mg base CX0 1 d_lets.f d_lets.fd ["members", "user", "sign", "node"] (spLets K cs.Folder cs.File)) :
    FnOk P w K mg base CX0 2 d_come_to.f d_come_to.fd ["core", "user", "path"] (spRes K cs.Folder cs.File cs.Core goN) := by
  refine' @FB.also _ _ ?_ ?_ ?_; rotate_left
  · intro wit__; simp only [↓FB.viaW wit__ (by
      clear wit__
      refine d_come_to.F.ok sc_come_to (fun vs H Q E ⟨_, _, _, _, _, _, _, _, _, e, _⟩ => by rw [e]; rfl) (fun cdv A outer s H vs Q E hr h => ?_)
      obtain ⟨z, c, co, fo, ws, N, user, v, xs, rfl, hz, hc, hv, q⟩ := h
      refine ⟨_, (pss_cons (ps_set (i := 3) sc_come_to.nd rfl (.inl rfl) (k_fld (K := K) (pv 0) rfl))
        (pss_cons (ps_for PassesOwn.never rfl (k_pit (K := K) (pi_tup (pv 2))) (pg_name (i := 4) sc_come_to.nd rfl (Or.inl rfl))
        (pss_cons (ps_set (i := 5) sc_come_to.nd rfl (.inl rfl) (k_fld (K := K) (pv 3) rfl))
        (pss_cons (ps_if (pt_cmpR op_isN (pv 5) pe_non (nomark _))
        (pss_one (ps_ret pe_str))
        pss_nil)
        (pss_cons (ps_if (PW.pt (pw_and (pt_not (pt_val (k_fld (K := K) (pv 3) rfl))) (pw_and1 (pt_not (pt_val (pe_call G_lets (hr.mono (by decide)) (by rfl) d_lets.g d_lets.F.kp d_lets.b .nil pass0 (pa_cons (k_fld (K := K) (pv 0) rfl) (pa_cons (pv 1) (pa_cons pe_str (pa_cons (pv 3) pa_nil))))))))))
        (pss_one (ps_ret pe_str))
        pss_nil)
        (pss_cons (ps_if (pt_cmp (pc_dnotin (lt1 hr.units) (pv 4) (pv 5)) (by rfl))
        (pss_one (ps_ret pe_str))
        pss_nil)
        (pss_one (ps_set (i := 3) sc_come_to.nd rfl (.inl rfl) (pe_dget (lt1 hr.units) (pv 5) (pv 4) (fun _ _ => rfl)))))))))
        (pss_one (ps_ret (pv 3))))), ?_⟩
      obtain ⟨p, us, rfl, np, hp, du⟩ := DU.tupAt hv
      have eu := dua_strs du
      subst eu
      obtain ⟨n0, hn0⟩ := hc.n0
      refine q_set (z := z) (φ := Is (.ref co.top)) hz (ev_co T.CO hc.nc hc.hc (by simp [coF]) rfl (ev_is rfl)) fun v4 H2 r2 f2 => ?_
      have e4 := f2 H2 .refl
      subst e4
      refine q_forTG (z := z) (xs := xs.map V.str) r2.dr (ev_tupv rfl np (r2.w p _ np hp)) fun H3 r3 => ?_
      have r13 := r2.tr r3
      refine ⟨fun i σ' H' => z.R H3 H' ∧ ∃ a o4 o5, goN N fo user xs co.top = goN N fo user (xs.drop i) a ∧ (∃ n, N a = some n) ∧ σ' = [some (.ref c), some (.str user), some (.ref p), some (.ref a), o4, o5],
        ⟨r3.dr, co.top, none, none, rfl, ⟨n0, hn0⟩, rfl⟩, fun i σ' H' hP => hP.1.w, fun i x σ' H' hx hP => ?_, fun σ' H' hP => ?_⟩
      · obtain ⟨r4, a, o4, o5, eg, ⟨n, hn⟩, rfl⟩ := hP
        rw [List.getElem?_map] at hx
        obtain ⟨y, hy, rfl⟩ := Option.map_eq_some_iff.mp hx
        have hi := (List.getElem?_eq_some_iff.mp hy).1
        have ed : xs.drop i = y :: xs.drop (i + 1) := by
          rw [List.drop_eq_getElem_cons hi, (List.getElem?_eq_some_iff.mp hy).2]
        rw [ed] at eg
        have egn : goN N fo user (y :: xs.drop (i + 1)) a = if n.nm = none then .inl "nofolder" else if mayN fo user 114 n = false then .inl "noright" else match kidOf n.kids y with
          | none => .inl "nothere"
          | some b => goN N fo user (xs.drop (i + 1)) b := by
          show (match N a with
            | none => _
            | some n => _) = _
          rw [hn]
          try rfl
        rw [egn] at eg
        show tSeq _ _ _ _ _
        have r14 := r13.tr r4
        have t4 := hc.ht.go r14
        obtain ⟨na, hna, hrt⟩ := t4.at_ a n hn
        refine q_set (z := z) (φ := Is (nmV n.nm)) r4.dr (ev_nd T.N na hna (by simp [ndF]) (nd_names n) (ev_is rfl)) fun v6 H6 r6 f6 => ?_
        have e6 := f6 H6 .refl
        subst e6
        have r16 := r14.tr r6
        have out : ∀ {H7 : Hp} {wd : Str} {D : Ends} {σ : L2.St}, z.R H6 H7 → goN N fo user xs co.top = .inl wd → (D.rt = Q) → tRet (tC (.str wd)) D σ H7 := fun {H7 wd D σ} r7 e er => by
          refine s_ret (z := z) (φ := Is (.str wd)) r7.dr ev_k fun v' H8 r8 f => ?_
          have e' : v' = .str wd := f H8 .refl
          rw [er, e']
          have := q H8 (r16.tr (r7.tr r8))
          rw [e] at this
          exact this
        refine q_if (z := z) r6.dr (et_test (ev_isN (ev_is rfl))) (fun hb H7 r7 => ?_) (fun hb H7 r7 => ?_)
        · have hnm : n.nm = none := by
            have := of_decide_eq_true hb
            cases e : n.nm with
            | none => rfl
            | some d => rw [e] at this; cases this
          rw [if_pos hnm] at eg
          exact out r7 eg rfl
        have hnm : ¬ n.nm = none := fun e => (of_decide_eq_false hb) (by rw [e]; rfl)
        obtain ⟨d, ed2⟩ : ∃ d, n.nm = some d := by
          cases e : n.nm with
          | none => exact absurd e hnm
          | some d => exact ⟨d, rfl⟩
        rw [if_neg hnm] at eg
        have r17 := r16.tr r7
        have hc7 := hc.go r17
        have t7 := hc7.ht
        obtain ⟨na7, hna7, hrt7⟩ := t7.at_ a n hn
        obtain ⟨nd, hd⟩ := t7.kd a n d hn ed2
        refine q_if (z := z) (b := !mayN fo user 114 n) r7.dr (et_to (et_and (a := !n.op) (b := !mayN fo user 114 n) (et_not (et_B (ev_nd T.N na7 hna7 (by simp [ndF]) (nd_op n) (ev_is rfl)))) fun _ => et_not (et_B (ev_lets hc7.nq hc7.hm na7 hna7 hrt7 (ev_co T.CO hc7.nc hc7.hc (by simp [coF]) rfl (ev_is rfl)) (fun _ _ => ev_is rfl) (fun _ _ => ev_k) fun _ _ => ev_is rfl))) (by rw [hc.ht.op a n hn]; exact open_may)) (fun hb2 H8 r8 => ?_) (fun hb2 H8 r8 => ?_)
        · have hmay : mayN fo user 114 n = false := by simpa using hb2
          rw [if_pos hmay] at eg
          exact out (r7.tr r8) eg rfl
        have hno : ¬ mayN fo user 114 n = false := fun h1 => by
          rw [h1] at hb2
          cases hb2
        rw [if_neg hno] at eg
        have r18 := r17.tr r8
        have hd8 := r8.kp d _ nd hd
        have names : ∀ {H' : Hp} {σ : L2.St}, σ[5]? = some (some (nmV n.nm)) → Ev z (tVar 5) σ H' (Is (.ref d)) := fun e => by
          rw [ed2] at e
          exact ev_is e
        refine q_if (z := z) (b := (kidOf n.kids y).isNone) r8.dr (et_B (ev_to (ev_dnin (z := z) (x := y) nd hd8 (fun _ _ => names rfl) (ev_is rfl)) (by rw [kids_val]; cases kidOf n.kids y <;> rfl))) (fun hb3 H9 r9 => ?_) (fun hb3 H9 r9 => ?_)
        · have ek : kidOf n.kids y = none := Option.isNone_iff_eq_none.mp hb3
          rw [ek] at eg
          exact out (r7.tr (r8.tr r9)) eg rfl
        · cases ek : kidOf n.kids y with
          | none => rw [ek] at hb3; cases hb3
          | some b =>
            rw [ek] at eg
            obtain ⟨m, hm2⟩ := hc.ht.ok a n y b hn (kidOf_mem ek)
            refine s_set (z := z) (i := 3) (φ := Is (.ref b)) r9.dr (ev_dgetS (z := z) (x := y) nd (r9.kp d _ nd hd8) (names rfl) (fun _ _ => ev_is rfl) (by rw [kids_val, ek]; rfl)) fun v4 H10 r10 f10 => ?_
            have e4 := f10 H10 .refl
            subst e4
            exact ⟨r4.tr (r6.tr (r7.tr (r8.tr (r9.tr r10)))), b, _, _, eg, ⟨m, hm2⟩, rfl⟩
      · obtain ⟨r4, a, o4, o5, eg, ⟨n, hn⟩, rfl⟩ := hP
        rw [List.length_map, List.drop_length] at eg
        refine s_ret (z := z) (φ := Is (.ref a)) r4.dr (ev_is rfl) fun v' H5 r5 f => ?_
        have e' : v' = .ref a := f H5 .refl
        have := q H5 (r13.tr (r4.tr r5))
        rw [eg] at this
        rw [e']
        exact this)]
  intro b q h; simpa using FB.pinF b h
  eq_refl
theorem ok_owns (T : Tx P K mg cs A_) (d_owns : Df K mg "owns" s_owns ["user", "node"]) : FnOk P w K mg base CX0 1 d_owns.f d_owns.fd ["user", "node"] (spOwns K cs.Folder cs.File) := by
  refine' @FB.also _ _ ?_ ?_ ?_; rotate_left
  · intro wit__; simp only [↓FB.viaW wit__ (by
      clear wit__
      refine d_owns.F.ok sc_owns (fun vs H Q E ⟨_, _, _, _, e, _⟩ => by rw [e]; rfl) (fun cdv A outer s H vs Q E hr h => ?_)
      obtain ⟨z, user, a, n, rfl, hz, na, hn, q⟩ := h
      refine ⟨_, (pss_one (ps_ret (pe_or (pe_cmpR op_eq (pv 0) (k_fld (K := K) (pv 1) rfl) (nomark _)) (pe_one (pe_cmpR op_eq (pv 0) (pe_glob (v := .str "root") (by rfl) T.c_ROOT ⟨_, rfl⟩) (nomark _)))))), ?_⟩
      refine s_ret (z := z) (φ := Is (.bl (decide (user = n.ow) || decide (user = "root")))) hz (ev_or (ev_to (ev_eq (ev_is rfl) (ev_nd T.N na hn (by simp [ndF]) (nd_owner n) (ev_is rfl)) rfl) (by rw [dec_str])) fun _ => ev_to (ev_eq (ev_is rfl) ev_k rfl) (by rw [dec_str])) fun v' H1 r1 f => ?_
      have e := f H1 .refl
      subst e
      exact q H1 r1)]
  intro b q h; simpa using FB.pinF b h
  eq_refl
end
end K05
set_option Elab.async false
set_option linter.all false
set_option maxRecDepth 100000
set_option maxHeartbeats 4000000
namespace K05
open PySem PySem.Spec PyProof.Rows L2 FB RZ
section
variable {P : Program} {w : World} {K : PySem.W.Frag} {mg : Str → Option Value} {base : Heap} {cs : Cs} {A_ : As}
/-- isinstance(x, str) of what a way tells -/
theorem ev_isS {z : Zn} {σ : L2.St} {H : Hp} {te : TE} {CF CL : Addr} {N : NMap} {r : Str ⊕ Addr} (TN : NodeK K CF CL) (TK : KindK K CF CL) (ht : TrAt K CF CL z H N) (ok : ∀ b, r = .inr b → ∃ n, N b = some n) (h : Ev z te σ H (Is (outV r))) :
    Ev z (tCB (rIsi K) (tCons te (tCons (tC (.ty "str")) tNil))) σ H (Is (.bl r.isLeft)) := by
  refine' @FB.also _ _ ?_ ?_ ?_; rotate_left
  · intro wit__; simp only [↓FB.viaW wit__ (by
      clear wit__
      cases r with
      | inl wd => exact ev_isi (d := .str wd) (h.imp fun v H' _ e => by rw [show v = .str wd from e]; exact .str wd) (kit_str _)
      | inr b =>
        obtain ⟨n, hn⟩ := ok b rfl
        obtain ⟨nb, hb, _⟩ := ht.at_ b n hn
        exact ev_isNd TN TK nb hb (.ty "str") (TK.str n) h ev_k)]
  intro b q h; simpa using FB.pinF b h
  eq_refl
/-- a call of a def (core, user, path) -/
theorem ev_res {z : Zn} {σ : L2.St} {H : Hp} {ta tb tc : TE} {CF CL CK c : Addr} {co : Co} {fo : Fo} {ws : List V} {N : NMap} {user : Str} {xs : List Str} {F : NMap → Fo → Str → List Str → Addr → Str ⊕ Addr} {E : XK} (hc : CoAt K CF CL CK z H c co fo ws N) (h1 : Ev z ta σ H (Is (.ref c))) (h2 : ∀ H1, z.R H H1 → Ev z tb σ H1 (Is (.str user))) (h3 : ∀ H1, z.R H H1 → Ev z tc σ H1 (Dd z (paS xs))) :
    Ev z (tCall (spRes K CF CL CK F) [] E (tCons ta (tCons tb (tCons tc tNil)))) σ H (Is (outV (F N fo user xs co.top))) := by
  refine' @FB.also _ _ ?_ ?_ ?_; rotate_left
  · intro wit__; simp only [↓FB.viaW wit__ (by
      clear wit__
      exact ev_call (ea_cons (φ := Is (.ref c)) h1 fun _ H1 r1 _ => ea_cons (φ := Is (.str user)) (h2 H1 r1) fun _ H2 r2 _ => ea_cons (φ := Dd z (paS xs)) (h3 H2 (r1.tr r2)) fun _ _ _ _ => ea_nil) fun vs H1 r ⟨a1, s1, e1, f1, a2, s2, e2, f2, a3, s3, e3, f3, e4⟩ Q k => by
          have g1 : a1 = .ref c := f1
          have g2 : a2 = .str user := f2
          exact ⟨z, c, co, fo, ws, N, user, a3, xs, by rw [e1, e2, e3, e4, g1, g2]; rfl, r.dr, hc.go r, f3, fun H' r' => k _ H' r' fun _ _ => rfl⟩)]
  intro b q h; simpa using FB.pinF b h
  eq_refl
theorem ret_to {z : Zn} {H H1 : Hp} {Q : VK} {r : Str ⊕ Addr} {σ : L2.St} {te : TE} {D : Ends} (q : ∀ H', z.R H H' → Q (outV r) H') (r1 : z.R H H1) (er : D.rt = Q) (h : Ev z te σ H1 (Is (outV r))) : tRet te D σ H1 :=
  s_ret (z := z) r1.dr h fun v' H2 r2 f => by
    have e : v' = outV r := f H2 .refl
    rw [er, e]
    exact q H2 (r1.tr r2)
theorem ok__folder_of (T : Tx P K mg cs A_) (d__folder_of : Df K mg "_folder_of" s__folder_of ["core", "user", "path"]) (d_come_to : Df K mg "come_to" s_come_to ["core", "user", "path"]) (d_lets : Df K mg "lets" s_lets ["members", "user", "sign", "node"])
    (G_come_to : FnOk P w K mg base CX0 2 d_come_to.f d_come_to.fd ["core", "user", "path"] (spRes K cs.Folder cs.File cs.Core goN)) (G_lets : FnOk P w K mg base CX0 1 d_lets.f d_lets.fd ["members", "user", "sign", "node"] (spLets K cs.Folder cs.File)) :
    FnOk P w K mg base CX0 3 d__folder_of.f d__folder_of.fd ["core", "user", "path"] (spRes K cs.Folder cs.File cs.Core ofN) := by
  refine' @FB.also _ _ ?_ ?_ ?_; rotate_left
  · intro wit__; simp only [↓FB.viaW wit__ (by
      clear wit__
      refine d__folder_of.F.ok sc__folder_of (fun vs H Q E ⟨_, _, _, _, _, _, _, _, _, e, _⟩ => by rw [e]; rfl) (fun cdv A outer s H vs Q E hr h => ?_)
      obtain ⟨z, c, co, fo, ws, N, user, v, xs, rfl, hz, hc, hv, q⟩ := h
      refine ⟨_, (pss_cons (ps_set (i := 3) sc__folder_of.nd rfl (.inl rfl) (pe_call G_come_to (hr.mono (by decide)) (by rfl) d_come_to.g d_come_to.F.kp d_come_to.b .nil pass0 (pa_cons (pv 0) (pa_cons (pv 1) (pa_cons (pe_slice (k_slt (K := K)) (pv 2) po_none (po_some (pe_un un_neg pe_int))) pa_nil)))))
        (pss_cons (ps_if (pt_val (pe_callB (k_isi (K := K)) (by rfl) T.isinstance (by decide +kernel) (pa_cons (pv 3) (pa_cons (pe_bltn (v := .ty "str") (by rfl) T.str (by decide +kernel) rfl) pa_nil))))
        (pss_one (ps_ret (pv 3)))
        pss_nil)
        (pss_cons (ps_if (pt_cmpR op_isN (k_fld (K := K) (pv 3) rfl) pe_non (nomark _))
        (pss_one (ps_ret pe_str))
        pss_nil)
        (pss_one (ps_ret (pe_ifExp (pt_val (pe_call G_lets (hr.mono (by decide)) (by rfl) d_lets.g d_lets.F.kp d_lets.b .nil pass0 (pa_cons (k_fld (K := K) (pv 0) rfl) (pa_cons (pv 1) (pa_cons pe_str (pa_cons (pv 3) pa_nil)))))) (pv 3) pe_str)))))), ?_⟩
      refine q_set (z := z) (φ := Is (outV (goN N fo user xs.dropLast co.top))) hz (ev_res (F := goN) hc (ev_is rfl) (fun _ _ => ev_is rfl) fun H1 r1 => ev_initS (ev_var rfl fun H' w => (hv.w r1.w).w w)) fun v3 H1 r1 f1 => ?_
      have e3 := f1 H1 .refl
      subst e3
      have hc1 := hc.go r1
      have okb : ∀ b, goN N fo user xs.dropLast co.top = .inr b → ∃ n, N b = some n := fun b e => goN_node hc.ht.ok _ _ b hc.n0 e
      refine q_if (z := z) r1.dr (et_B (ev_isS T.N T.KD hc1.ht okb (ev_is rfl))) (fun hb H2 r2 => ?_) (fun hb H2 r2 => ?_)
      · cases eg : goN N fo user xs.dropLast co.top with
        | inr b => rw [eg] at hb; cases hb
        | inl wd =>
          have eo : ofN N fo user xs co.top = .inl wd := by
            unfold ofN
            rw [eg]
            rfl
          rw [eo] at q
          exact ret_to q (r1.tr r2) rfl (ev_is rfl)
      · cases eg : goN N fo user xs.dropLast co.top with
        | inl wd => rw [eg] at hb; cases hb
        | inr a =>
          obtain ⟨n, hn⟩ := okb a eg
          have r12 := r1.tr r2
          have hc2 := hc.go r12
          obtain ⟨na, hna, hrt⟩ := hc2.ht.at_ a n hn
          have eo : ofN N fo user xs co.top = if n.nm.isSome then (if mayN fo user 119 n then .inr a else .inl "noright") else .inl "nofolder" := by
            unfold ofN
            rw [eg]
            unfold folN
            simp only [hn]
            cases n.nm with
            | none => rfl
            | some d =>
              show letN N fo user 119 (.inr a) = _
              unfold letN
              simp only [hn]
              rfl
          rw [eo] at q
          refine q_if (z := z) (b := n.nm.isNone) r2.dr (et_test (ev_to (ev_isN (ev_nd T.N na hna (by simp [ndF]) (nd_names n) (ev_is rfl))) (by cases n.nm <;> rfl))) (fun hb2 H3 r3 => ?_) (fun hb2 H3 r3 => ?_)
          · have hnm : n.nm = none := Option.isNone_iff_eq_none.mp hb2
            rw [hnm] at q
            exact ret_to (r := .inl "nofolder") q (r12.tr r3) rfl ev_k
          · have hnm : n.nm.isSome = true := by
              cases e : n.nm with
              | none => rw [e] at hb2; cases hb2
              | some d => rfl
            rw [if_pos hnm] at q
            have r13 := r12.tr r3
            have hc3 := hc.go r13
            refine ret_to (r := if mayN fo user 119 n then .inr a else .inl "noright") q r13 rfl (ev_if (b := mayN fo user 119 n) (et_B (ev_lets hc3.nq hc3.hm na (hna.go na r3) (hrt.w r3.w) (ev_co T.CO hc3.nc hc3.hc (by simp [coF]) rfl (ev_is rfl)) (fun _ _ => ev_is rfl) (fun _ _ => ev_k) fun _ _ => ev_is rfl)) (fun hm => ?_) fun hm => ?_)
            · rw [if_pos hm]
              exact ev_is rfl
            · rw [if_neg (by rw [hm]; decide)]
              exact ev_k)]
  intro b q h; simpa using FB.pinF b h
  eq_refl
theorem ok__new_place (T : Tx P K mg cs A_) (d__new_place : Df K mg "_new_place" s__new_place ["core", "user", "path"]) (d__folder_of : Df K mg "_folder_of" s__folder_of ["core", "user", "path"])
    (G__folder_of : FnOk P w K mg base CX0 3 d__folder_of.f d__folder_of.fd ["core", "user", "path"] (spRes K cs.Folder cs.File cs.Core ofN)) : FnOk P w K mg base CX0 4 d__new_place.f d__new_place.fd ["core", "user", "path"] (spRes K cs.Folder cs.File cs.Core (placeN "stands" "stands" true)) := by
  refine' @FB.also _ _ ?_ ?_ ?_; rotate_left
  · intro wit__; simp only [↓FB.viaW wit__ (by
      clear wit__
      refine d__new_place.F.ok sc__new_place (fun vs H Q E ⟨_, _, _, _, _, _, _, _, _, e, _⟩ => by rw [e]; rfl) (fun cdv A outer s H vs Q E hr h => ?_)
      obtain ⟨z, c, co, fo, ws, N, user, v, xs, rfl, hz, hc, hv, q⟩ := h
      refine ⟨_, (pss_cons (ps_if (pt_not (pt_truth (pv 2) (by intro _; rfl)))
        (pss_one (ps_ret pe_str))
        pss_nil)
        (pss_cons (ps_set (i := 3) sc__new_place.nd rfl (.inl rfl) (pe_call G__folder_of (hr.mono (by decide)) (by rfl) d__folder_of.g d__folder_of.F.kp d__folder_of.b .nil pass0 (pa_cons (pv 0) (pa_cons (pv 1) (pa_cons (pv 2) pa_nil)))))
        (pss_cons (ps_if (pt_val (pe_callB (k_isi (K := K)) (by rfl) T.isinstance (by decide +kernel) (pa_cons (pv 3) (pa_cons (pe_bltn (v := .ty "str") (by rfl) T.str (by decide +kernel) rfl) pa_nil))))
        (pss_one (ps_ret (pv 3)))
        pss_nil)
        (pss_one (ps_ret (pe_ifExp (pt_cmp (pc_din (lt1 hr.units) (pe_ix (k_ixt (K := K)) (pv 2) (pe_un un_neg pe_int) (fun _ _ => rfl)) (k_fld (K := K) (pv 3) rfl)) (by rfl)) pe_str (pv 3))))))), ?_⟩
      refine q_if (z := z) hz (et_not (et_tupS (xs := xs) (ev_var rfl fun H' w => hv.w w))) (fun hb H1 r1 => ?_) (fun hb H1 r1 => ?_)
      · have ex : xs = [] := by
          cases xs with
          | nil => rfl
          | cons _ _ => simp at hb
        subst ex
        exact ret_to (r := .inl "stands") q r1 rfl ev_k
      obtain ⟨x, hx⟩ : ∃ x, xs.getLast? = some x := by
        cases e : xs.getLast? with
        | some x => exact ⟨x, rfl⟩
        | none =>
          rw [List.getLast?_eq_none_iff.mp e] at hb
          simp at hb
      unfold placeN at q
      simp only [hx] at q
      have hc1 := hc.go r1
      refine q_set (z := z) (φ := Is (outV (ofN N fo user xs co.top))) r1.dr (ev_res (F := ofN) hc1 (ev_is rfl) (fun _ _ => ev_is rfl) fun H2 r2 => (ev_var rfl fun H' w => (hv.w (r1.tr r2).w).w w)) fun v3 H2 r2 f2 => ?_
      have e3 := f2 H2 .refl
      subst e3
      have r12 := r1.tr r2
      have hc2 := hc.go r12
      refine q_if (z := z) r2.dr (et_B (ev_isS T.N T.KD hc2.ht (fun b e => let ⟨n, _, hn, _⟩ := of_ok hc.ht.ok hc.n0 e; ⟨n, hn⟩) (ev_is rfl))) (fun hb2 H3 r3 => ?_) (fun hb2 H3 r3 => ?_)
      · cases eo : ofN N fo user xs co.top with
        | inr b => rw [eo] at hb2; cases hb2
        | inl wd =>
          simp only [eo] at q
          exact ret_to (r := .inl wd) q (r12.tr r3) rfl (ev_is rfl)
      · cases eo : ofN N fo user xs co.top with
        | inl wd => rw [eo] at hb2; cases hb2
        | inr a =>
          obtain ⟨n, d, hn, hd⟩ := of_ok hc.ht.ok hc.n0 eo
          simp only [eo, hn] at q
          have r13 := r12.tr r3
          have hc3 := hc.go r13
          obtain ⟨na, hna, hrt⟩ := hc3.ht.at_ a n hn
          obtain ⟨nd, hdd⟩ := hc3.ht.kd a n d hn hd
          have names : ∀ {H' : Hp} {σ : L2.St}, z.R H3 H' → σ[3]? = some (some (.ref a)) → Ev z (tFld K (tVar 3) "names") σ H' (Is (.ref d)) := fun r e => ev_to (ev_nd T.N na (hna.go na r) (by simp [ndF]) (nd_names n) (ev_is e)) (by rw [hd]; rfl)
          refine ret_to (r := if (kidOf n.kids x).isSome = true then .inl "stands" else .inr a) q r13 rfl (ev_if (b := (kidOf n.kids x).isSome) (et_B (ev_to (ev_din (z := z) (x := x) nd hdd (fun H4 r4 => names r4 rfl) (ev_lastS (ev_var rfl fun H' w => (hv.w r13.w).w w) hx)) (by rw [kids_val]; cases kidOf n.kids x <;> rfl))) (fun hm => ?_) fun hm => ?_)
          · rw [if_pos hm]
            exact ev_k
          · rw [if_neg (by rw [hm]; decide)]
            exact ev_is rfl)]
  intro b q h; simpa using FB.pinF b h
  eq_refl
end
end K05
set_option Elab.async false
set_option linter.all false
set_option maxRecDepth 100000
set_option maxHeartbeats 4000000
namespace K05
open PySem PySem.Spec PyProof.Rows L2 FB RZ
section
variable {P : Program} {w : World} {K : PySem.W.Frag} {mg : Str → Option Value} {base : Heap} {cs : Cs} {A_ : As}
theorem ok_Folder_init (T : Tx P K mg cs A_) (d_Folder : Di K mg cs.Folder "Folder" s_Folder_init ["self", "owner", "group", "rights"]) : FnOk P w K mg base CX0 1 d_Folder.f d_Folder.fd ["self", "owner", "group", "rights"] (spFInit cs.Folder) := by
  refine' @FB.also _ _ ?_ ?_ ?_; rotate_left
  · intro wit__; simp only [↓FB.viaW wit__ (by
      clear wit__
      refine d_Folder.F.ok sc_Folder_init (fun vs H Q E ⟨_, _, _, _, _, e, _⟩ => by rw [e]; rfl) (fun cdv A outer s H vs Q E hr h => ?_)
      obtain ⟨x, dx, ow, gr, rt, rfl, hx, q⟩ := h
      refine ⟨_, (pss_cons (ps_fld (pv 0) pe_str (by rfl))
        (pss_cons (ps_fld (pv 0) (pv 1) (by rfl))
        (pss_cons (ps_fld (pv 0) (pv 2) (by rfl))
        (pss_cons (ps_fld (pv 0) (pv 3) (by rfl))
        (pss_cons (ps_fld (pv 0) pe_bl (by rfl))
        (pss_cons (ps_fld (pv 0) pe_dnewK (by rfl))
        (pss_one (ps_fld (pv 0) pe_non (by rfl))))))))), ?_⟩
      refine q_fldK rfl (fun Q q => q) hx T.N.cF (T.N.nF _ (by simp)) (show 0 < 1000 by decide) ?_
      refine q_fldK rfl (fun Q q => ⟨_, rfl, q⟩) upd_same T.N.cF (T.N.nF _ (by simp)) (show 1 < 1000 by decide) ?_
      rw [upd_upd]
      refine q_fldK rfl (fun Q q => ⟨_, rfl, q⟩) upd_same T.N.cF (T.N.nF _ (by simp)) (show 2 < 1000 by decide) ?_
      rw [upd_upd]
      refine q_fldK rfl (fun Q q => ⟨_, rfl, q⟩) upd_same T.N.cF (T.N.nF _ (by simp)) (show 3 < 1000 by decide) ?_
      rw [upd_upd]
      refine q_fldK rfl (fun Q q => q) upd_same T.N.cF (T.N.nF _ (by simp)) (show 4 < 1000 by decide) ?_
      rw [upd_upd]
      refine fun d hd => ?_
      have xd : x ≠ d := fun e => by
        rw [← e, upd_same] at hd
        cases hd
      have hdH : H d = none := by
        rw [upd_ne (Ne.symm xd)] at hd
        exact hd
      refine ⟨.ref x, rfl, x, cs.Folder, dx, _, rfl, Eq.trans (upd_ne xd) upd_same, T.N.cF, T.N.nF _ (by simp), (show 5 < 1000 by decide), ?_⟩
      dsimp only
      refine s_fldK rfl (fun Q q => q) upd_same T.N.cF (T.N.nF _ (by simp)) (show 6 < 1000 by decide) ?_
      refine q d _ hdH upd_same ?_ fun p o e hp => ?_
      · rw [upd_ne (Ne.symm xd), upd_ne (Ne.symm xd), upd_same]
      · rw [upd_ne hp, upd_ne hp, upd_ne (fun e2 => by rw [e2, hdH] at e; cases e), upd_ne hp]
        exact e)]
  intro b q h; simpa using FB.pinF b h
  eq_refl
theorem ok_File_init (T : Tx P K mg cs A_) (d_File : Di K mg cs.File "File" s_File_init ["self", "owner", "group", "rights"]) : FnOk P w K mg base CX0 1 d_File.f d_File.fd ["self", "owner", "group", "rights"] (spLInit cs.File) := by
  refine' @FB.also _ _ ?_ ?_ ?_; rotate_left
  · intro wit__; simp only [↓FB.viaW wit__ (by
      clear wit__
      refine d_File.F.ok sc_File_init (fun vs H Q E ⟨_, _, _, _, _, e, _⟩ => by rw [e]; rfl) (fun cdv A outer s H vs Q E hr h => ?_)
      obtain ⟨x, dx, ow, gr, rt, rfl, hx, q⟩ := h
      refine ⟨_, (pss_cons (ps_fld (pv 0) pe_str (by rfl))
        (pss_cons (ps_fld (pv 0) (pv 1) (by rfl))
        (pss_cons (ps_fld (pv 0) (pv 2) (by rfl))
        (pss_cons (ps_fld (pv 0) (pv 3) (by rfl))
        (pss_cons (ps_fld (pv 0) pe_bl (by rfl))
        (pss_cons (ps_fld (pv 0) pe_non (by rfl))
        (pss_cons (ps_fld (pv 0) (pe_tup pa_nil) (by rfl))
        (pss_cons (ps_fld (pv 0) pe_int (by rfl))
        (pss_cons (ps_fld (pv 0) pe_int (by rfl))
        (pss_one (ps_fld (pv 0) pe_int (by rfl)))))))))))), ?_⟩
      refine q_fldK rfl (fun Q q => q) hx T.N.cL (T.N.nL _ (by simp)) (show 0 < 1000 by decide) ?_
      refine q_fldK rfl (fun Q q => ⟨_, rfl, q⟩) upd_same T.N.cL (T.N.nL _ (by simp)) (show 1 < 1000 by decide) ?_
      rw [upd_upd]
      refine q_fldK rfl (fun Q q => ⟨_, rfl, q⟩) upd_same T.N.cL (T.N.nL _ (by simp)) (show 2 < 1000 by decide) ?_
      rw [upd_upd]
      refine q_fldK rfl (fun Q q => ⟨_, rfl, q⟩) upd_same T.N.cL (T.N.nL _ (by simp)) (show 3 < 1000 by decide) ?_
      rw [upd_upd]
      refine q_fldK rfl (fun Q q => q) upd_same T.N.cL (T.N.nL _ (by simp)) (show 4 < 1000 by decide) ?_
      rw [upd_upd]
      refine q_fldK rfl (fun Q q => q) upd_same T.N.cL (T.N.nL _ (by simp)) (show 5 < 1000 by decide) ?_
      rw [upd_upd]
      refine ⟨(by show 0 ≤ sizeLine; exact Nat.zero_le _), fun t ht => ?_⟩
      have xt : x ≠ t := fun e => by
        rw [← e, upd_same] at ht
        cases ht
      have htH : H t = none := by
        rw [upd_ne (Ne.symm xt)] at ht
        exact ht
      refine ⟨.ref x, rfl, x, cs.File, dx, _, rfl, Eq.trans (upd_ne xt) upd_same, T.N.cL, T.N.nL _ (by simp), (show 6 < 1000 by decide), ?_⟩
      dsimp only
      refine q_fldK rfl (fun Q q => q) upd_same T.N.cL (T.N.nL _ (by simp)) (show 7 < 1000 by decide) ?_
      rw [upd_upd]
      refine q_fldK rfl (fun Q q => q) upd_same T.N.cL (T.N.nL _ (by simp)) (show 8 < 1000 by decide) ?_
      rw [upd_upd]
      refine s_fldK rfl (fun Q q => q) upd_same T.N.cL (T.N.nL _ (by simp)) (show 9 < 1000 by decide) ?_
      rw [upd_upd]
      refine q t _ htH upd_same ?_ fun p o e hp => ?_
      · rw [upd_ne (Ne.symm xt), upd_same]
      · rw [upd_ne hp, upd_ne (fun e2 => by rw [e2, htH] at e; cases e), upd_ne hp]
        exact e)]
  intro b q h; simpa using FB.pinF b h
  eq_refl
section
variable {z z' : Zn} {H H1 H' : Hp} {σ : L2.St} {te : TE} {D : Ends} {CF CL CK c : Addr} {co : Co} {fo : Fo} {ws : List V} {N N' : NMap} {user : Str} {e : Dee} {Q : VK} {d : PyData}
abbrev Fin (K : PySem.W.Frag) (CF CL CK : Addr) (z : Zn) (H : Hp) (c : Addr) (co : Co) (fo : Fo) (ws : List V) (N : NMap) (user : Str) (e : Dee) (Q : VK) : Prop := ∀ z' H' N' d v', Step (ownP c N) z H z' H' → CoFull K CF CL CK z' H' c co fo ws N' → Res fo co.top user N e N' d → DK K z' d v' H' → Q v' H'
/-- an answer that changes nothing -/
theorem s_ans (q : Fin K CF CL CK z H c co fo ws N user e Q) (hc : CoFull K CF CL CK z H c co fo ws N) (r : z.R H H1) (er : D.rt = Q) (res : Res fo co.top user N e N d) (h : Ev z te σ H1 (DK K z d)) : tRet te D σ H1 := by
  refine' @FB.also _ _ ?_ ?_ ?_; rotate_left
  · intro wit__; simp only [↓FB.viaW wit__ (by
      clear wit__
      exact s_ret (z := z) r.dr h fun v' H2 r2 f => by
          rw [er]
          exact q z H2 N d v' (Step.of_R hc.su (r.tr r2)) (hc.go (r.tr r2)) res (f H2 .refl))]
  intro b q h; simpa using FB.pinF b h
  eq_refl
/-- .. one behind a change -/
theorem s_ansS (q : Fin K CF CL CK z H c co fo ws N user e Q) (hz : z.R H H) (s : Step (ownP c N) z H z' H1) (hc : CoFull K CF CL CK z' H1 c co fo ws N') (er : D.rt = Q) (res : Res fo co.top user N e N' d) (hs : ∀ p, ownP c N' p → ownP c N p ∨ H p = none) (h : Ev z' te σ H1 (DK K z' d)) : tRet te D σ H1 := by
  refine' @FB.also _ _ ?_ ?_ ?_; rotate_left
  · intro wit__; simp only [↓FB.viaW wit__ (by
      clear wit__
      exact s_ret (z := z') s.r h fun v' H2 r2 f => by
          rw [er]
          exact q z' H2 N' d v' (s.tr hz (Step.of_R hc.su r2) hs) (hc.go r2) res (f H2 .refl))]
  intro b q h; simpa using FB.pinF b h
  eq_refl
/-- ('no', WORD) -/
theorem ev_no {wd : Str} (h : ∀ H1, z.R H H1 → Ev z te σ H1 (Is (.str wd))) : Ev z (tTup (tCons (tC (.str "no")) (tCons te tNil))) σ H (DK K z (noD wd)) :=
  ev_tupK (ea_dk (ev_kS ev_k) fun H1 r1 => ea_dk (ev_kS (h H1 r1)) fun _ _ => ea_dkN) (by show 2 ≤ 100000; decide)
theorem ev_cst {a : Addr} {xs : List Str} (h : ∀ H', SqT K H' a (xs.map V.str)) : Ev z (tC (.ref a)) σ H (DK K z (.tuple (xs.map .str))) := ev_c fun _ _ => dk_const h
theorem own_set {a : Addr} {n na : Nd} (h : N a = some na) (e : n.nm = na.nm) : ∀ p, ownP c (setN N a n) p → ownP c N p := by
  refine' @FB.also _ _ ?_ ?_ ?_; rotate_left
  · intro wit__; simp only [↓FB.viaW wit__ (by
      clear wit__
      exact fun p q => by
        rcases q with q | ⟨m, q⟩ | ⟨b, m, q1, q2⟩
        · exact .inl q
        · by_cases e1 : p = a
          · exact .inr (.inl ⟨na, by rw [e1]; exact h⟩)
          · rw [setN_ne e1] at q
            exact .inr (.inl ⟨m, q⟩)
        · by_cases e1 : b = a
          · rw [e1, setN_eq] at q1
            cases q1
            rw [e] at q2
            exact .inr (.inr ⟨a, na, h, q2⟩)
          · rw [setN_ne e1] at q1
            exact .inr (.inr ⟨b, m, q1, q2⟩))]
  intro b q h; simpa using FB.pinF b h
  eq_refl
theorem own_new {b : Addr} {n : Nd} {H : Hp} (hb : H b = none) (hd : ∀ d, n.nm = some d → H d = none) : ∀ p, ownP c (setN N b n) p → ownP c N p ∨ H p = none := by
  refine' @FB.also _ _ ?_ ?_ ?_; rotate_left
  · intro wit__; simp only [↓FB.viaW wit__ (by
      clear wit__
      exact fun p q => by
        rcases q with q | ⟨m, q⟩ | ⟨a, m, q1, q2⟩
        · exact .inl (.inl q)
        · by_cases e1 : p = b
          · exact .inr (by rw [e1]; exact hb)
          · rw [setN_ne e1] at q
            exact .inl (.inr (.inl ⟨m, q⟩))
        · by_cases e1 : a = b
          · rw [e1, setN_eq] at q1
            cases q1
            exact .inr (hd p q2)
          · rw [setN_ne e1] at q1
            exact .inl (.inr (.inr ⟨a, m, q1, q2⟩)))]
  intro b q h; simpa using FB.pinF b h
  eq_refl
end
end
end K05
set_option Elab.async false
set_option linter.all false
set_option maxRecDepth 100000
set_option maxHeartbeats 4000000
namespace K05
open PySem PySem.Spec PyProof.Rows L2 FB RZ
section
variable {P : Program} {w : World} {K : PySem.W.Frag} {mg : Str → Option Value} {base : Heap} {cs : Cs} {A_ : As}
/-- d[k] = C(..), alone -/
theorem s_dputMake {td ty : TE} {sp : Sp} {C : Addr} {E : XK} {tas : TA} {D : Ends} {σ : L2.St} {H : Hp} (h : tas σ H (fun vs H1 => ∀ x dx, H1 x = none → H1 dx = none → dx ≠ x → sp (.ref x :: (vs ++ [])) (upd (upd H1 dx (.own x)) x (.ins C dx [])) (fun v H2 => v = .non ∧ td σ H2 fun x2 H3 => ty σ H3 fun y H4 => ∃ a H5, x2 = .ref a ∧ DPut H4 a y (.ref x) H5 ∧ D.nx σ H5) E)) : sDPut td ty (tMake C sp [] E tas) D σ H := h
theorem make_go {z : Zn} {H H4 H5 : Hp} {c : Addr} {co : Co} {fo : Fo} {ws : List V} {N : NMap} {user x : Str} {xs : List Str} {a b da : Addr} {na nn : Nd} {fold : Bool} {Q : VK} {v4 : V} {σ : L2.St} {nx : L2.St → Hp → Prop} (T : Tx P K mg cs A_) (hz : z.R H H) (hc : CoFull K cs.Folder cs.File cs.Core z H c co fo ws N)
    (ep : placeN "stands" "stands" true N fo user xs co.top = .inr a) (hx : xs.getLast? = some x) (hna : N a = some na) (hda : na.nm = some da) (hkid : kidOf na.kids x = none) (hkl : na.kids.length ≤ 1000) (hnew : newNd user na.gr fold nn)
    (q : Fin K cs.Folder cs.File cs.Core z H c co fo ws N user (.make fold xs) Q) (r4 : z.R H H4) (hb : H4 b = none) (kept4 : ∀ p o, H4 p = some o → H5 p = some o) (hbx : NodeAt cs.Folder cs.File H5 b nn) (hd : ∀ d, nn.nm = some d → H4 d = none ∧ H5 d = some (.dK []))
    (hr : ∃ p, nn.rt = .ref p ∧ ∀ H2, SqT K H2 p [.str nn.r1, .str nn.r2, .str nn.r3]) (ho : nn.op = opn nn) (hpa : nn.nm = none → DU (fun p => z.U p ∨ (p = b ∨ nn.nm = some p)) H5 nn.parts (paD nn.ps)) (hv4 : DU z.U H4 v4 (paS xs)) (e5 : σ[5]? = some (some (.ref a))) (e4 : σ[4]? = some (some v4)) (hnx : ∀ H', Q (.ref A_.DONE) H' → nx σ H') :
    (tFld K (tVar 5) "names") σ H5 fun x2 H3 => (tOp (rIxT K) (tVar 4) (tUn (rU fun i => .int (-i)) (tC (.int 1)))) σ H3 fun y H4 => ∃ a' H5, x2 = .ref a' ∧ DPut H4 a' y (.ref b) H5 ∧ nx σ H5 := by
  have hc4 := hc.go r4
  obtain ⟨s1, hc5⟩ := hc4.newN (n := nn) (b := b) kept4 hb hbx hd hnew.2.2.2.2.2.2.1 hr ho hpa r4.dr
  have hdm : ∀ d, nn.nm = some d → H4 d = none := fun d e => (hd d e).1
  generalize ez : (z.gr fun p => p = b ∨ nn.nm = some p) = z1 at s1 hc5
  have ab : a ≠ b := fun e => by
    have h1 : H4 a = some _ := (hc4.ca.ht.at_ a na hna).2.1
    rw [e, hb] at h1
    cases h1
  have nb0 : N b = none := by
    cases e : N b with
    | none => rfl
    | some m =>
      have h1 : H4 b = some _ := (hc4.ca.ht.at_ b m e).2.1
      rw [hb] at h1
      cases h1
  have hna5 : setN N b nn a = some na := by rw [setN_ne ab]; exact hna
  obtain ⟨ia5, nat5, _⟩ := hc5.ca.ht.at_ a na hna5
  have hv5 := s1.du hv4
  have names : Ev z1 (tFld K (tVar 5) "names") σ H5 (Is (.ref da)) := ev_to (ev_nd (z := z1) T.N ia5 nat5 (by simp [ndF]) (nd_names na) (ev_is e5)) (by rw [hda]; rfl)
  have last : ∀ {H6 : Hp}, z1.R H5 H6 → Ev z1 (tOp (rIxT K) (tVar 4) (tUn (rU fun i => .int (-i)) (tC (.int 1)))) σ H6 (Is (.str x)) := fun r6 => ev_lastS (z := z1) (xs := xs) (ev_var e4 fun H' w => (hv5.w r6.w).w w) hx
  refine names H5 s1.r _ fun y H6 r6 ey => last r6 H6 r6.dr _ fun y2 H7 r7 ey2 => ?_
  have ey' : y = .ref da := ey H6 .refl
  have ey2' : y2 = .str x := ey2 H7 .refl
  subst ey2'
  have r57 := r6.tr r7
  have hc7 := hc5.go r57
  obtain ⟨ida, hda7⟩ := hc7.ca.ht.kd a na da hna5 hda
  have hlen : (kidsK na.kids).length ≤ 1000 := by
    unfold kidsK
    rw [List.length_map]
    exact hkl
  refine ⟨da, _, ey', DPut.k (k := (.inr x : Key)) hda7 (Nat.lt_of_le_of_lt hlen (by decide)), ?_⟩
  rw [kids_put hkid]
  have hc8 := hc7.setKids hna5 hda (na.kids ++ [(x, b)]) fun y m hm => by
    rcases List.mem_append.mp hm with hm | hm
    · exact hc7.ca.ht.ok a na y m hna5 hm
    · have e := List.mem_singleton.mp hm
      injection e with e1 e2
      exact ⟨nn, by rw [e2]; exact setN_eq⟩
  have o1 : ∀ p, ownP c (setN N b nn) p → ownP c N p ∨ H4 p = none := own_new hb hdm
  have s2 : Step (ownP c N) z H4 z1 (upd H7 da (.dK (kidsK (na.kids ++ [(x, b)])))) := s1.tr r4.dr (Step.tr s1.r (Step.of_R hc5.su r57) (Step.upd r57.dr hc7.su (.inr (.inr ⟨a, na, hna5, hda⟩)) hda7 ida) fun p h => .inl h) o1
  have s3 : Step (ownP c N) z H z1 (upd H7 da (.dK (kidsK (na.kids ++ [(x, b)])))) := Step.tr hz (Step.of_R hc.su r4) s2 fun p h => .inl h
  exact hnx _ (q z1 _ _ _ _ s3 hc8 (.make ep hx hna nb0 hnew) (dk_const (xs := ["done"]) T.q_DONE))
theorem ok__make (T : Tx P K mg cs A_) (d__make : Df K mg "_make" s__make ["core", "user", "deed"]) (d__new_place : Df K mg "_new_place" s__new_place ["core", "user", "path"]) (d_Folder : Di K mg cs.Folder "Folder" s_Folder_init ["self", "owner", "group", "rights"]) (d_File : Di K mg cs.File "File" s_File_init ["self", "owner", "group", "rights"])
    (G__new_place : FnOk P w K mg base CX0 4 d__new_place.f d__new_place.fd ["core", "user", "path"] (spRes K cs.Folder cs.File cs.Core (placeN "stands" "stands" true))) (G_Folder : FnOk P w K mg base CX0 1 d_Folder.f d_Folder.fd ["self", "owner", "group", "rights"] (spFInit cs.Folder)) (G_File : FnOk P w K mg base CX0 1 d_File.f d_File.fd ["self", "owner", "group", "rights"] (spLInit cs.File))
    : FnOk P w K mg base CX0 5 d__make.f d__make.fd ["core", "user", "deed"] (spDeed K cs.Folder cs.File cs.Core (fun e => ∃ f xs, e = .make f xs)) := by
  refine' @FB.also _ _ ?_ ?_ ?_; rotate_left
  · intro wit__; simp only [↓FB.viaW wit__ (by
      clear wit__
      refine d__make.F.ok sc__make (fun vs H Q E ⟨_, _, _, _, _, _, _, _, _, e, _⟩ => by rw [e]; rfl) (fun cdv A outer s H vs Q E hr h => ?_)
      obtain ⟨z, c, co, fo, ws, N, user, v, e, rfl, hz, hc, hv, ⟨fold, xs, rfl⟩, hg, _, hkl, q⟩ := h
      refine ⟨_, (pss_cons (ps_asg (pv 2) (k_pgt (K := K) (n := 2) (pgs_cons (pg_name (i := 3) sc__make.nd rfl (Or.inl rfl)) (pgs_cons (pg_name (i := 4) sc__make.nd rfl (Or.inl rfl)) pgs_nil))))
        (pss_cons (ps_set (i := 5) sc__make.nd rfl (.inl rfl) (pe_call G__new_place (hr.mono (by decide)) (by rfl) d__new_place.g d__new_place.F.kp d__new_place.b .nil pass0 (pa_cons (pv 0) (pa_cons (pv 1) (pa_cons (pv 4) pa_nil)))))
        (pss_cons (ps_if (pt_val (pe_callB (k_isi (K := K)) (by rfl) T.isinstance (by decide +kernel) (pa_cons (pv 5) (pa_cons (pe_bltn (v := .ty "str") (by rfl) T.str (by decide +kernel) rfl) pa_nil))))
        (pss_one (ps_ret (pe_tup (pa_cons pe_str (pa_cons (pv 5) pa_nil)))))
        pss_nil)
        (pss_cons (ps_if (pt_cmpR op_eq (pv 3) pe_str (nomark _))
        (pss_one (ps_dput (lt1 hr.units) (k_fld (K := K) (pv 5) rfl) (pe_ix (k_ixt (K := K)) (pv 4) (pe_un un_neg pe_int) (fun _ _ => rfl)) (pe_make d_Folder.mk1 G_Folder (hr.mono (by decide)) (by rfl) d_Folder.g d_Folder.b .nil pass0 (pa_cons (pv 1) (pa_cons (k_fld (K := K) (pv 5) rfl) (pa_cons (pe_glob (v := .ref A_.NEW_RIGHTS) (by rfl) T.c_NEW_RIGHTS rfl) pa_nil)))) (by rfl)))
        (pss_one (ps_dput (lt1 hr.units) (k_fld (K := K) (pv 5) rfl) (pe_ix (k_ixt (K := K)) (pv 4) (pe_un un_neg pe_int) (fun _ _ => rfl)) (pe_make d_File.mk1 G_File (hr.mono (by decide)) (by rfl) d_File.g d_File.b .nil pass0 (pa_cons (pv 1) (pa_cons (k_fld (K := K) (pv 5) rfl) (pa_cons (pe_glob (v := .ref A_.NEW_RIGHTS) (by rfl) T.c_NEW_RIGHTS rfl) pa_nil)))) (by rfl))))
        (pss_one (ps_ret (pe_glob (v := .ref A_.DONE) (by rfl) T.c_DONE rfl))))))), ?_⟩
      obtain ⟨p, us, rfl, np, hpa, du⟩ := DU.tupAt hv
      obtain ⟨v1, v2, rfl, k1, k2⟩ := DUA.two du
      have e1 := DU.strAt k1
      subst e1
      refine q_un2 (z := z) hz np hpa (ev_is rfl) fun H1 r1 => ?_
      have hc1 := hc.go r1
      have hv1 := k2.w (z := z) r1.w
      refine q_set (z := z) (φ := Is (outV (placeN "stands" "stands" true N fo user xs co.top))) r1.dr (ev_res (F := placeN "stands" "stands" true) hc1.ca (ev_is rfl) (fun _ _ => ev_is rfl) fun H2 r2 => (ev_var rfl fun H' w => (hv1.w r2.w).w w)) fun v5 H2 r2 f2 => ?_
      have e5 := f2 H2 .refl
      subst e5
      have r12 := r1.tr r2
      have hc2 := hc.go r12
      refine q_if (z := z) r2.dr (et_B (ev_isS T.N T.KD hc2.ca.ht (fun b e => let ⟨_, n, _, _, hn, _⟩ := place_ok hc.ca.ht.ok hc.ca.n0 e; ⟨n, hn⟩) (ev_is rfl))) (fun hb H3 r3 => ?_) (fun hb H3 r3 => ?_)
      · cases ep : placeN "stands" "stands" true N fo user xs co.top with
        | inr b => rw [ep] at hb; cases hb
        | inl wd => exact s_ans q hc (r12.tr r3) rfl (.makeNo ep) (ev_no fun _ _ => ev_is rfl)
      cases ep : placeN "stands" "stands" true N fo user xs co.top with
      | inl wd => rw [ep] at hb; cases hb
      | inr a =>
        obtain ⟨x, na, da, hx, hna, hda, hno⟩ := place_ok hc.ca.ht.ok hc.ca.n0 ep
        have hkid : kidOf na.kids x = none := by
          cases e : kidOf na.kids x with
          | none => rfl
          | some b => rw [e] at hno; exact absurd rfl hno
        have r13 := r12.tr r3
        refine q_ifE (z := z) (b := decide (V.str (if fold then "folder" else "file") = V.str "folder")) r3.dr (et_test (ev_eq (ev_is rfl) ev_k rfl)) (fun hb2 H4 r4 => ?_) (fun hb2 H4 r4 => ?_)
        all_goals
          have r14 := r13.tr r4
          have hc4 := hc.go r14
          obtain ⟨ia, nat, _⟩ := hc4.ca.ht.at_ a na hna
          have args : EvA z (tCons (tVar 1) (tCons (tFld K (tVar 5) "group") (tCons (tC (.ref A_.NEW_RIGHTS)) tNil))) [some (.ref c), some (.str user), some (.ref p), some (.str (if fold then "folder" else "file")), some v2, some (.ref a)] H4 (fun vs _ => vs = [.str user, .str na.gr, .ref A_.NEW_RIGHTS]) := ea_is (ev_is rfl) (ea_is (ev_nd T.N ia nat (by simp [ndF]) (nd_group na) (ev_is rfl)) (ea_is ev_k ea_nil))
          refine s_dputMake (args H4 r4.dr _ fun vs H5 r5 e => ?_)
          have e' := e H5 .refl
          subst e'
          intro b dx hb hdx hne
        · have hf : fold = true := by
            cases fold with
            | true => rfl
            | false => cases (show (decide (V.str "file" = V.str "folder")) = true from hb2)
          subst hf
          refine ⟨b, dx, user, na.gr, .ref A_.NEW_RIGHTS, rfl, upd_same, fun d H6 hd hbx hdd kept => ⟨rfl, ?_⟩⟩
          have bd : b ≠ d := fun e => by
            rw [← e, upd_same] at hd
            cases hd
          have hd4 : H5 d = none := by
            rw [upd_ne (Ne.symm bd)] at hd
            by_cases e : d = dx
            · rw [e, upd_same] at hd; cases hd
            · rw [upd_ne e] at hd; exact hd
          have kept4 : ∀ p o, H5 p = some o → H6 p = some o := fun p o e => by
            have pb : p ≠ b := fun e2 => by rw [e2, hb] at e; cases e
            refine kept p o ?_ pb
            rw [upd_ne pb, upd_ne (fun e2 => by rw [e2, hdx] at e; cases e)]
            exact e
          exact make_go (σ := [some (.ref c), some (.str user), some (.ref p), _, some v2, some (.ref a)]) T hz hc ep hx hna hda hkid (hkl a na hna) (nn := { dx := dx, ow := user, gr := na.gr, rt := .ref A_.NEW_RIGHTS, op := true, nm := some d, lim := .non, parts := .non, size := 0, prom := 0, links := 1, kids := [], r1 := "rw", r2 := "r", r3 := "r", ps := [] }) ⟨rfl, rfl, rfl, rfl, rfl, rfl, rfl, rfl, rfl, rfl, rfl⟩ q (r14.tr r5) hb kept4 hbx (fun d2 e2 => by
            have e3 : d = d2 := Option.some.inj e2
            rw [← e3]
            exact ⟨hd4, hdd⟩) ⟨_, rfl, fun H' => T.q_NEW_RIGHTS H'⟩ (show true = (inC 114 "rw" && (inC 114 "r" && inC 114 "r")) by decide +kernel) (fun e => by cases e) (k2.w (r14.tr r5).w) rfl rfl fun H' h => h
        · have hf : fold = false := by
            cases fold with
            | false => rfl
            | true => exact absurd rfl (of_decide_eq_false hb2)
          subst hf
          refine ⟨b, dx, user, na.gr, .ref A_.NEW_RIGHTS, rfl, upd_same, fun d H6 hd hbx hdd kept => ⟨rfl, ?_⟩⟩
          have bd : b ≠ d := fun e => by
            rw [← e, upd_same] at hd
            cases hd
          have hd4 : H5 d = none := by
            rw [upd_ne (Ne.symm bd)] at hd
            by_cases e : d = dx
            · rw [e, upd_same] at hd; cases hd
            · rw [upd_ne e] at hd; exact hd
          have kept4 : ∀ p o, H5 p = some o → H6 p = some o := fun p o e => by
            have pb : p ≠ b := fun e2 => by rw [e2, hb] at e; cases e
            refine kept p o ?_ pb
            rw [upd_ne pb, upd_ne (fun e2 => by rw [e2, hdx] at e; cases e)]
            exact e
          have r15 := r14.tr r5
          exact make_go (σ := [some (.ref c), some (.str user), some (.ref p), _, some v2, some (.ref a)]) T hz hc ep hx hna hda hkid (hkl a na hna) (nn := { dx := dx, ow := user, gr := na.gr, rt := .ref A_.NEW_RIGHTS, op := true, nm := none, lim := .non, parts := .ref d, size := 0, prom := 0, links := 1, kids := [], r1 := "rw", r2 := "r", r3 := "r", ps := [] }) ⟨rfl, rfl, rfl, rfl, rfl, rfl, rfl, rfl, rfl, rfl, rfl⟩ q r15 hb kept4 hbx (fun d2 e2 => by cases e2) ⟨_, rfl, fun H' => T.q_NEW_RIGHTS H'⟩ (show true = (inC 114 "rw" && (inC 114 "r" && inC 114 "r")) by decide +kernel) (fun _ => .tup (fun u => by
            rcases u with u | u | u
            · exact r15.l2 d u hd4
            · exact bd u.symm
            · cases u) hdd .nil) (k2.w r15.w) rfl rfl fun H' h => h)]
  intro b q h; simpa using FB.pinF b h
  eq_refl
end
end K05
set_option Elab.async false
set_option linter.all false
set_option maxRecDepth 100000
set_option maxHeartbeats 4000000
namespace K05
open PySem PySem.Spec PyProof.Rows L2 FB RZ
section
variable {P : Program} {w : World} {K : PySem.W.Frag} {mg : Str → Option Value} {base : Heap} {cs : Cs} {A_ : As}
theorem ok_has_room (T : Tx P K mg cs A_) (d_has_room : Df K mg "has_room" s_has_room ["core"]) (d_used : Df K mg "used" s_used ["folder"]) (d_held : Df K mg "held" s_held ["core", "user"]) (d__strained_folders : Df K mg "_strained_folders" s__strained_folders ["core"]) (d__strained_users : Df K mg "_strained_users" s__strained_users ["core"])
    (G_used : FnOk P w K mg base CX0 1 d_used.f d_used.fd ["folder"] (spNo)) (G_held : FnOk P w K mg base CX0 1 d_held.f d_held.fd ["core", "user"] (spNo)) (G__strained_folders : FnOk P w K mg base CX0 1 d__strained_folders.f d__strained_folders.fd ["core"] (spNo)) (G__strained_users : FnOk P w K mg base CX0 1 d__strained_users.f d__strained_users.fd ["core"] (spNo)) : FnOk P w K mg base CX0 2 d_has_room.f d_has_room.fd ["core"] (spRoomT K cs.Folder cs.File cs.Core) := by
  refine' @FB.also _ _ ?_ ?_ ?_; rotate_left
  · intro wit__; simp only [↓FB.viaW wit__ (by
      clear wit__
      refine d_has_room.F.ok sc_has_room (fun vs H Q E ⟨_, _, _, _, _, _, e, _⟩ => by rw [e]; rfl) (fun cdv A outer s H vs Q E hr h => ?_)
      obtain ⟨z, c, co, fo, ws, N, rfl, hz, hc, q⟩ := h
      refine ⟨_, (pss_cons (ps_if (PW.pt (pw_and (pt_not (pt_truth (k_fld (K := K) (pv 0) rfl) (by intro _; rfl))) (pw_and1 (pt_not (pt_truth (k_fld (K := K) (pv 0) rfl) (by intro _; rfl))))))
        (pss_one (ps_ret pe_bl))
        pss_nil)
        (pss_cons (ps_if (pt_val (k_fld (K := K) (pv 0) rfl))
        (pss_cons (ps_fld (pv 0) (pe_op op_cat (pe_call G__strained_folders (hr.mono (by decide)) (by rfl) d__strained_folders.g d__strained_folders.F.kp d__strained_folders.b .nil pass0 (pa_cons (pv 0) pa_nil)) (pe_call G__strained_users (hr.mono (by decide)) (by rfl) d__strained_users.g d__strained_users.F.kp d__strained_users.b .nil pass0 (pa_cons (pv 0) pa_nil))) (by rfl))
        (pss_one (ps_ret (pe_not (k_fld (K := K) (pv 0) rfl)))))
        pss_nil)
        (pss_cons (ps_lock (ps_for PassesOwn.never rfl (pi_keys (k_fld (K := K) (pv 0) rfl)) (pg_name (i := 1) sc_has_room.nd rfl (Or.inl rfl))
        (pss_one (ps_if (pt_cmpR op_gt (pe_call G_used (hr.mono (by decide)) (by rfl) d_used.g d_used.F.kp d_used.b .nil pass0 (pa_cons (pv 1) pa_nil)) (k_fld (K := K) (pv 1) rfl) (nomark _))
        (pss_one (ps_ret pe_bl))
        pss_nil))))
        (pss_cons (ps_lock (ps_for PassesOwn.never rfl (pi_items (k_fld (K := K) (pv 0) rfl)) (k_pgt (K := K) (n := 2) (pgs_cons (pg_name (i := 2) sc_has_room.nd rfl (Or.inl rfl)) (pgs_cons (pg_name (i := 3) sc_has_room.nd rfl (Or.inl rfl)) pgs_nil)))
        (pss_one (ps_if (pt_cmpR op_gt (pe_call G_held (hr.mono (by decide)) (by rfl) d_held.g d_held.F.kp d_held.b .nil pass0 (pa_cons (pv 0) (pa_cons (pv 2) pa_nil))) (pv 3) (nomark _))
        (pss_one (ps_ret pe_bl))
        pss_nil))))
        (pss_one (ps_ret pe_bl)))))), ?_⟩
      obtain ⟨n1, _, h1⟩ := hc.calm co.li (.inr (.inl rfl))
      obtain ⟨n2, _, h2⟩ := hc.calm co.sh (.inr (.inr rfl))
      refine q_if (z := z) (b := true) hz (et_to (et_and (a := true) (b := true) (et_not (et_dic0 n1 h1 (ev_co T.CO hc.ca.nc hc.ca.hc (by simp [coF]) rfl (ev_is rfl)))) fun _ => et_not (et_dic0 n2 h2 (ev_co T.CO hc.ca.nc hc.ca.hc (by simp [coF]) rfl (ev_is rfl)))) rfl) (fun _ H1 r1 => ?_) (fun hb => by cases hb)
      refine s_ret (z := z) (φ := Is (.bl true)) r1.dr ev_k fun v' H2 r2 f => ?_
      have e := f H2 .refl
      subst e
      exact q H2 (r1.tr r2))]
  intro b q h; simpa using FB.pinF b h
  eq_refl
theorem ok_give (T : Tx P K mg cs A_) (d_give_rights : Df K mg "give_rights" s_give_rights ["node", "rights"]) : FnOk P w K mg base CX0 1 d_give_rights.f d_give_rights.fd ["node", "rights"] (spGive K cs.Folder cs.File cs.Core) := by
  refine' @FB.also _ _ ?_ ?_ ?_; rotate_left
  · intro wit__; simp only [↓FB.viaW wit__ (by
      clear wit__
      refine d_give_rights.F.ok sc_give_rights (fun vs H Q E ⟨_, _, _, _, _, _, _, _, _, _, _, _, e, _⟩ => by rw [e]; rfl) (fun cdv A outer s H vs Q E hr h => ?_)
      obtain ⟨z, c, co, fo, ws, N, a, n, v, r1, r2, r3, rfl, hz, hc, hn, hv, q⟩ := h
      refine ⟨_, (pss_cons (ps_asg (pv 1) (k_pgt (K := K) (n := 3) (pgs_cons (pg_name (i := 2) sc_give_rights.nd rfl (Or.inl rfl)) (pgs_cons (pg_name (i := 3) sc_give_rights.nd rfl (Or.inl rfl)) (pgs_cons (pg_name (i := 4) sc_give_rights.nd rfl (Or.inl rfl)) pgs_nil)))))
        (pss_cons (ps_fld (pv 0) (pv 1) (by rfl))
        (pss_one (ps_fld (pv 0) (pe_and (pe_cmpR op_in_sign pe_str (pv 2) (by rfl)) (pe_and (pe_cmpR op_in_sign pe_str (pv 3) (by rfl)) (pe_one (pe_cmpR op_in_sign pe_str (pv 4) (by rfl))))) (by rfl))))), ?_⟩
      obtain ⟨p, us, rfl, np, hp, du⟩ := DU.tupAt hv
      obtain ⟨w1, w2, w3, eu, j1, j2, j3⟩ := DUA.tri du
      have g1 := DU.strAt j1
      have g2 := DU.strAt j2
      have g3 := DU.strAt j3
      subst eu g1 g2 g3
      refine q_un3 (z := z) hz np hp (ev_is rfl) fun H1 q1 => ?_
      have hc1 := hc.go q1
      obtain ⟨ia, na, rta⟩ := hc1.ca.ht.at_ a n hn
      refine q_fldVV (C := if n.nm.isSome then cs.Folder else cs.File) rfl rfl na (T.N.cl n) (T.N.no n (by simp [ndF])) (flds_len n) ?_
      rw [put_rights]
      let n1 : Nd := { n with rt := .ref p }
      have ua := hc1.un a n hn
      have r2z : z.R (upd H1 a (.ins (if n.nm.isSome then cs.Folder else cs.File) n.dx n1.flds)) (upd H1 a (.ins (if n.nm.isSome then cs.Folder else cs.File) n.dx n1.flds)) := R_updU q1.dr na ia
      refine s_fldE (z := z) (a := a) (C := if n.nm.isSome then cs.Folder else cs.File) (dx := n.dx) (fs := n1.flds) (φ := Is (.bl (inC 114 r1 && (inC 114 r2 && inC 114 r3)))) r2z (ev_and (ev_inC ev_k (ev_is rfl)) fun _ => ev_and (ev_inC ev_k (ev_is rfl)) fun _ => ev_inC ev_k (ev_is rfl)) rfl ia upd_same (T.N.cl n) (T.N.no n (by simp [ndF])) (flds_len n1) fun v H3 r3' f3 => ?_
      have e3 := f3 H3 .refl
      subst e3
      have er : putF "is_open" (.bl (inC 114 r1 && (inC 114 r2 && inC 114 r3))) n1.flds = ({ n1 with op := inC 114 r1 && (inC 114 r2 && inC 114 r3) } : Nd).flds := put_op n1 _
      rw [er]
      have rs : z.R H1 (upd H3 a (.ins (if n.nm.isSome then cs.Folder else cs.File) n.dx n.flds)) := R_shadow r3' na ia q1.dr
      have hc4 := hc1.go rs
      let n2 : Nd := { n with rt := .ref p, op := inC 114 r1 && (inC 114 r2 && inC 114 r3), r1 := r1, r2 := r2, r3 := r3 }
      have fl : n2.flds = ({ n1 with op := inC 114 r1 && (inC 114 r2 && inC 114 r3) } : Nd).flds := rfl
      have w4 : z.W H (upd H3 a (.ins (if n.nm.isSome then cs.Folder else cs.File) n.dx n.flds)) := (q1.tr rs).w
      have hc5 := hc4.setN (n' := n2) hn rfl rfl ⟨p, rfl, .inl ⟨np, w4 p _ np hp⟩⟩ rfl fun e => hc4.ca.ht.pa a n hn e
      rw [upd_upd] at hc5
      have s5 : Step (ownP c N) z H z (upd H3 a (.ins (if n2.nm.isSome then cs.Folder else cs.File) n2.dx n2.flds)) := by
        have s4 : Step (ownP c N) z _ z _ := Step.upd (o := .ins (if n2.nm.isSome then cs.Folder else cs.File) n2.dx n2.flds) (rs.dr) hc4.su (.inr (.inl ⟨n, hn⟩)) (upd_same (H := H3) (a := a) (o := .ins (if n.nm.isSome then cs.Folder else cs.File) n.dx n.flds)) ia
        rw [upd_upd] at s4
        exact Step.tr hz (Step.of_R hc.su (q1.tr rs)) s4 fun p h => .inl h
      exact q _ (.ref p) s5 hc5)]
  intro b q h; simpa using FB.pinF b h
  eq_refl
theorem ok__rights (T : Tx P K mg cs A_) (d__rights : Df K mg "_rights" s__rights ["core", "user", "deed"]) (d_come_to : Df K mg "come_to" s_come_to ["core", "user", "path"]) (d_owns : Df K mg "owns" s_owns ["user", "node"]) (d_has_room : Df K mg "has_room" s_has_room ["core"]) (d_give_rights : Df K mg "give_rights" s_give_rights ["node", "rights"])
    (G_come_to : FnOk P w K mg base CX0 2 d_come_to.f d_come_to.fd ["core", "user", "path"] (spRes K cs.Folder cs.File cs.Core goN)) (G_owns : FnOk P w K mg base CX0 1 d_owns.f d_owns.fd ["user", "node"] (spOwns K cs.Folder cs.File)) (G_has_room : FnOk P w K mg base CX0 2 d_has_room.f d_has_room.fd ["core"] (spRoomT K cs.Folder cs.File cs.Core)) (G_give_rights : FnOk P w K mg base CX0 1 d_give_rights.f d_give_rights.fd ["node", "rights"] (spGive K cs.Folder cs.File cs.Core))
    : FnOk P w K mg base CX0 5 d__rights.f d__rights.fd ["core", "user", "deed"] (spDeed K cs.Folder cs.File cs.Core (fun e => ∃ xs o g r1 r2 r3, e = .rights xs o g r1 r2 r3)) := by
  refine' @FB.also _ _ ?_ ?_ ?_; rotate_left
  · intro wit__; simp only [↓FB.viaW wit__ (by
      clear wit__
      refine d__rights.F.ok sc__rights (fun vs H Q E ⟨_, _, _, _, _, _, _, _, _, e, _⟩ => by rw [e]; rfl) (fun cdv A outer s H vs Q E hr h => ?_)
      obtain ⟨z, c, co, fo, ws, N, user, v, e, rfl, hz, hc, hv, ⟨xs, o, g, r1, r2, r3, rfl⟩, hg, _, hkl, q⟩ := h
      refine ⟨_, (pss_cons (ps_asg (pv 2) (k_pgt (K := K) (n := 5) (pgs_cons (pg_name (i := 3) sc__rights.nd rfl (Or.inl rfl)) (pgs_cons (pg_name (i := 4) sc__rights.nd rfl (Or.inl rfl)) (pgs_cons (pg_name (i := 5) sc__rights.nd rfl (Or.inl rfl)) (pgs_cons (pg_name (i := 6) sc__rights.nd rfl (Or.inl rfl)) (pgs_cons (pg_name (i := 7) sc__rights.nd rfl (Or.inl rfl)) pgs_nil)))))))
        (pss_cons (ps_set (i := 8) sc__rights.nd rfl (.inl rfl) (pe_call G_come_to (hr.mono (by decide)) (by rfl) d_come_to.g d_come_to.F.kp d_come_to.b .nil pass0 (pa_cons (pv 0) (pa_cons (pv 1) (pa_cons (pv 4) pa_nil)))))
        (pss_cons (ps_if (pt_val (pe_callB (k_isi (K := K)) (by rfl) T.isinstance (by decide +kernel) (pa_cons (pv 8) (pa_cons (pe_bltn (v := .ty "str") (by rfl) T.str (by decide +kernel) rfl) pa_nil))))
        (pss_one (ps_ret (pe_tup (pa_cons pe_str (pa_cons (pv 8) pa_nil)))))
        pss_nil)
        (pss_cons (ps_set (i := 9) sc__rights.nd rfl (.inl rfl) (k_fld (K := K) (pv 8) rfl))
        (pss_cons (ps_if (PW.pt (pw_or (pt_not (pt_val (pe_call G_owns (hr.mono (by decide)) (by rfl) d_owns.g d_owns.F.kp d_owns.b .nil pass0 (pa_cons (pv 1) (pa_cons (pv 8) pa_nil))))) (pw_or1 (PW.pt (pw_and (pt_cmpR op_ne (pv 5) (pv 9) (nomark _)) (pw_and1 (pt_cmpR op_ne (pv 1) (pe_glob (v := .str "root") (by rfl) T.c_ROOT ⟨_, rfl⟩) (nomark _))))))))
        (pss_one (ps_ret (pe_glob (v := .ref A_.NO_RIGHT) (by rfl) T.c_NO_RIGHT rfl)))
        pss_nil)
        (pss_cons (ps_fld (pv 8) (pv 5) (by rfl))
        (pss_cons (ps_if (PW.pt (pw_and (pt_cmpR op_ne (pv 5) (pv 9) (nomark _)) (pw_and1 (pt_not (pt_val (pe_call G_has_room (hr.mono (by decide)) (by rfl) d_has_room.g d_has_room.F.kp d_has_room.b .nil pass0 (pa_cons (pv 0) pa_nil)))))))
        (pss_cons (ps_fld (pv 8) (pv 9) (by rfl))
        (pss_one (ps_ret (pe_glob (v := .ref A_.NO_ROOM) (by rfl) T.c_NO_ROOM rfl))))
        pss_nil)
        (pss_cons (ps_fld (pv 8) (pv 6) (by rfl))
        (pss_cons (ps_expr (pe_call G_give_rights (hr.mono (by decide)) (by rfl) d_give_rights.g d_give_rights.F.kp d_give_rights.b .nil pass0 (pa_cons (pv 8) (pa_cons (pv 7) pa_nil))))
        (pss_one (ps_ret (pe_glob (v := .ref A_.DONE) (by rfl) T.c_DONE rfl)))))))))))), ?_⟩
      obtain ⟨p, us, rfl, np, hpa, du⟩ := DU.tupAt hv
      obtain ⟨v1, v2, v3, v4, v5, rfl, k1, k2, k3, k4, k5⟩ := DUA.fif du
      have e3 := DU.strAt k3
      have e4 := DU.strAt k4
      subst e3
      subst e4
      refine q_un5 (z := z) hz np hpa (ev_is rfl) fun H1 q1 => ?_
      have hc1 := hc.go q1
      refine q_set (z := z) (φ := Is (outV (goN N fo user xs co.top))) q1.dr (ev_res (F := goN) hc1.ca (ev_is rfl) (fun _ _ => ev_is rfl) fun H2 r2 => (ev_var rfl fun H' w => (k2.w (q1.tr r2).w).w w)) fun v8 H2 q2 f2 => ?_
      have e8 := f2 H2 .refl
      subst e8
      have q12 := q1.tr q2
      have hc2 := hc.go q12
      have okb : ∀ b, goN N fo user xs co.top = .inr b → ∃ n, N b = some n := fun b e => goN_node hc.ca.ht.ok _ _ b hc.ca.n0 e
      refine q_if (z := z) q2.dr (et_B (ev_isS T.N T.KD hc2.ca.ht okb (ev_is rfl))) (fun hb H3 q3 => ?_) (fun hb H3 q3 => ?_)
      · cases eg : goN N fo user xs co.top with
        | inr b => rw [eg] at hb; cases hb
        | inl wd => exact s_ans q hc (q12.tr q3) rfl (.rightsNo eg) (ev_no fun _ _ => ev_is rfl)
      cases eg : goN N fo user xs co.top with
      | inl wd => rw [eg] at hb; cases hb
      | inr a =>
        obtain ⟨n, hn⟩ := okb a eg
        have q13 := q12.tr q3
        have hc3 := hc.go q13
        obtain ⟨ia, na3, _⟩ := hc3.ca.ht.at_ a n hn
        refine q_set (z := z) (i := 9) (φ := Is (.str n.ow)) q3.dr (ev_nd T.N ia na3 (by simp [ndF]) (nd_owner n) (ev_is rfl)) fun v9 H4 q4 f4 => ?_
        have e9 := f4 H4 .refl
        subst e9
        have q14 := q13.tr q4
        have hc4 := hc.go q14
        obtain ⟨_, na4, _⟩ := hc4.ca.ht.at_ a n hn
        refine q_if (z := z) (b := !(decide (user = n.ow) || decide (user = "root")) || (!decide (V.str o = .str n.ow) && !decide (V.str user = .str "root"))) q4.dr (et_or (et_not (et_B (ev_call (Φ := fun vs _ => vs = [.str user, .ref a]) (ea_is (ev_is rfl) (ea_is (ev_is rfl) ea_nil)) fun vs H5 r5 e Q0 q0 => ⟨z, user, a, n, by rw [e]; rfl, r5.dr, ia, na4.go ia r5, fun H' r' => q0 _ H' r' fun _ _ => rfl⟩))) fun _ => et_and (et_test (ev_ne (ev_is rfl) (ev_is rfl) rfl)) fun _ => et_test (ev_ne (ev_is rfl) ev_k rfl)) (fun hb2 H5 q5 => ?_) (fun hb2 H5 q5 => ?_)
        · have hu : user ≠ "root" := fun e => by
            subst e
            simp at hb2
          refine s_ans q hc (q14.tr q5) rfl (.rightsNot eg hn hu ?_) (ev_cst (xs := ["no", "noright"]) T.q_NO_RIGHT)
          by_cases h1 : user = n.ow
          · refine .inr fun h2 => ?_
            rw [h2] at hb2
            simp [h1] at hb2
          · exact .inl h1
        have hok : user = "root" ∨ (user = n.ow ∧ o = n.ow) := by
          by_cases hu : user = "root"
          · exact .inl hu
          · right
            rw [Bool.or_eq_false_iff, Bool.not_eq_false', Bool.or_eq_true, Bool.and_eq_false_iff] at hb2
            obtain ⟨h1, h2⟩ := hb2
            have h3 : user = n.ow := by
              rcases h1 with h1 | h1
              · exact of_decide_eq_true h1
              · exact absurd (of_decide_eq_true h1) hu
            refine ⟨h3, ?_⟩
            rcases h2 with h2 | h2
            · rw [Bool.not_eq_false'] at h2
              have := of_decide_eq_true h2
              injection this
            · rw [Bool.not_eq_false'] at h2
              have := of_decide_eq_true h2
              injection this with this
              exact absurd this hu
        have q15 := q14.tr q5
        have hc5 := hc.go q15
        obtain ⟨_, na5, rt5⟩ := hc5.ca.ht.at_ a n hn
        let n1 : Nd := { n with ow := o }
        refine q_fldVV (C := if n.nm.isSome then cs.Folder else cs.File) rfl rfl na5 (T.N.cl n) (T.N.no n (by simp [ndF])) (flds_len n) ?_
        rw [put_owner]
        have hc8 := hc5.setN (n' := n1) hn rfl rfl rt5 (hc5.ca.ht.op a n hn) fun e => hc5.ca.ht.pa a n hn e
        have s8 : Step (ownP c N) z H5 z _ := Step.upd (o := .ins (if n1.nm.isSome then cs.Folder else cs.File) n1.dx n1.flds) q15.dr hc5.su (.inr (.inl ⟨n, hn⟩)) na5 ia
        refine q_if (z := z) (b := false) s8.r (et_to (et_and (b := false) (et_test (ev_ne (ev_is rfl) (ev_is rfl) rfl)) fun _ => et_not (et_B (b := true) (ev_call (Φ := fun vs _ => vs = [.ref c]) (ea_is (ev_is rfl) ea_nil) fun vs H9 q9 e Q0 q0 => ⟨z, c, co, fo, ws, _, by rw [e]; rfl, q9.dr, hc8.go q9, fun H' r' => q0 _ H' r' fun _ _ => rfl⟩))) (by rw [Bool.and_false])) (fun hb => by cases hb) fun _ H9 q9 => ?_
        have hc9 := hc8.go q9
        obtain ⟨_, na9, rt9⟩ := hc9.ca.ht.at_ a n1 setN_eq
        let n2 : Nd := { n1 with gr := g }
        refine q_fldVV (C := if n1.nm.isSome then cs.Folder else cs.File) rfl rfl na9 (T.N.cl n1) (T.N.no n1 (by simp [ndF])) (flds_len n1) ?_
        rw [put_group]
        have hc10 := hc9.setN (n' := n2) setN_eq rfl rfl rt9 (hc9.ca.ht.op a n1 setN_eq) fun e => hc9.ca.ht.pa a n1 setN_eq e
        have s10 : Step (ownP c (setN N a n1)) z H9 z _ := Step.upd (o := .ins (if n2.nm.isSome then cs.Folder else cs.File) n2.dx n2.flds) q9.dr hc9.su (.inr (.inl ⟨n1, setN_eq⟩)) na9 ia
        rw [setN_setN] at hc10
        have o1 : ∀ p, ownP c (setN N a n1) p → ownP c N p := own_set hn rfl
        have s11 : Step (ownP c N) z H z _ := Step.tr hz (Step.of_R hc.su q15) (Step.tr q15.dr s8 (Step.tr s8.r (Step.of_R (fun p h => hc8.su p h) q9) s10 fun p h => .inl h) fun p h => .inl (o1 p h)) fun p h => .inl h
        refine q_dropX (z := z) (Φ := fun vs _ => vs = [.ref a, v5]) s10.r (ea_is (ev_is rfl) (ea_is (ev_is rfl) ea_nil)) fun vs H11 q11 e => ?_
        subst e
        have s12 : Step (ownP c N) z H z H11 := Step.tr hz s11 (Step.of_R (S := ownP c N) hc.su q11) fun p h => .inl h
        refine ⟨z, c, co, fo, ws, setN N a n2, a, n2, v5, r1, r2, r3, rfl, q11.dr, hc10.go q11, setN_eq, s12.du k5, fun H13 rt s13 hc13 => ?_⟩
        rw [setN_setN] at hc13
        have o2 : ∀ p, ownP c (setN N a n2) p → ownP c N p := own_set hn rfl
        have s14 : Step (ownP c N) z H z H13 := Step.tr hz s12 s13 fun p h => .inl (o2 p h)
        exact s_ansS q hz s14 hc13 rfl (Res.rights (n := n) (rt := rt) eg hn hok) (fun p h => .inl (own_set (na := n) (n := { n2 with rt := rt, op := inC 114 r1 && (inC 114 r2 && inC 114 r3), r1 := r1, r2 := r2, r3 := r3 }) hn rfl p h)) (ev_cst (xs := ["done"]) T.q_DONE))]
  intro b q h; simpa using FB.pinF b h
  eq_refl
end
end K05
set_option Elab.async false
set_option linter.all false
set_option maxRecDepth 100000
set_option maxHeartbeats 4000000
namespace K05
open PySem PySem.Spec PyProof.Rows L2 FB RZ
section
variable {P : Program} {w : World} {K : PySem.W.Frag} {mg : Str → Option Value} {base : Heap} {cs : Cs} {A_ : As}
theorem ev_notN {z : Zn} {σ : L2.St} {H : Hp} {te : TE} {x : V} (h : Ev z te σ H (Is x)) : Ev z (tOp (fun x y H Q => y = .non ∧ Q (.bl (!decide (x = .non))) H) te (tC .non)) σ H (Is (.bl (!decide (x = .non)))) :=
  ev_op2 h ev_k fun H1 r => rn_val r.dr (fun Q q => ⟨rfl, q⟩) fun _ _ => rfl
theorem nm_non (n : Nd) : decide (nmV n.nm = .non) = n.nm.isNone := by cases n.nm <;> rfl
theorem ok__looked (T : Tx P K mg cs A_) (d__looked : Df K mg "_looked" s__looked ["node"]) : FnOk P w K mg base CX0 1 d__looked.f d__looked.fd ["node"] (spLooked K cs.Folder cs.File) := by
  refine' @FB.also _ _ ?_ ?_ ?_; rotate_left
  · intro wit__; simp only [↓FB.viaW wit__ (by
      clear wit__
      refine d__looked.F.ok sc__looked (fun vs H Q E ⟨_, _, _, _, e, _⟩ => by rw [e]; rfl) (fun cdv A outer s H vs Q E hr h => ?_)
      obtain ⟨z, N, a, n, rfl, hz, ht, hn, q⟩ := h
      refine ⟨_, (pss_cons (ps_set (i := 1) sc__looked.nd rfl (.inl rfl) (pe_ifExp (pt_cmpR op_isN (k_fld (K := K) (pv 0) rfl) pe_non (nomark _)) (k_fld (K := K) (pv 0) rfl) (pe_callB call_lenD (by rfl) T.len PySem.boot_len (pa_cons (k_fld (K := K) (pv 0) rfl) pa_nil))))
        (pss_one (ps_ret (pe_tup (pa_cons (k_fld (K := K) (pv 0) rfl) (pa_cons (k_fld (K := K) (pv 0) rfl) (pa_cons (k_fld (K := K) (pv 0) rfl) (pa_cons (k_fld (K := K) (pv 0) rfl) (pa_cons (pv 1) pa_nil))))))))), ?_⟩
      obtain ⟨ia, na, rta⟩ := ht.at_ a n hn
      refine q_set (z := z) (φ := Is (.int (szN n))) hz (ev_if (b := n.nm.isNone) (et_test (ev_to (ev_isN (ev_nd T.N ia na (by simp [ndF]) (nd_names n) (ev_is rfl))) (by rw [nm_non]))) (fun hb => ?_) fun hb => ?_) fun v1 H1 r1 f1 => ?_
      · have hnm : n.nm = none := Option.isNone_iff_eq_none.mp hb
        have nl : H a = some (.ins cs.File n.dx n.flds) := by
          have h1 : H a = some (.ins (if n.nm.isSome then cs.Folder else cs.File) n.dx n.flds) := na
          rw [hnm] at h1
          exact h1
        exact ev_to (ev_fld ia nl T.N.cL (T.N.nL _ (by simp)) (nd_size n hnm) (ev_is rfl)) (by unfold szN; rw [hnm]; rfl)
      · obtain ⟨d, hd⟩ : ∃ d, n.nm = some d := by
          cases e : n.nm with
          | none => rw [e] at hb; cases hb
          | some d => exact ⟨d, rfl⟩
        obtain ⟨nd, hdd⟩ := ht.kd a n d hn hd
        refine ev_to (ev_lenK nd hdd (ev_to (ev_nd T.N ia na (by simp [ndF]) (nd_names n) (ev_is rfl)) (by rw [hd]; rfl))) ?_
        unfold szN kidsK
        rw [hd, List.length_map]
        rfl
      have e1 := f1 H1 .refl
      subst e1
      have na1 := na.go ia r1
      refine s_ret (z := z) (φ := DK K z (lookD n)) r1.dr (ev_tupK (ea_dk (ev_kS (ev_nd T.N ia na1 (by simp [ndF]) (nd_kind n) (ev_is rfl))) fun H2 r2 => ea_dk (ev_kS (ev_nd T.N ia (na1.go ia r2) (by simp [ndF]) (nd_owner n) (ev_is rfl))) fun H3 r3 => ea_dk (ev_kS (ev_nd T.N ia ((na1.go ia r2).go ia r3) (by simp [ndF]) (nd_group n) (ev_is rfl))) fun H4 r4 => ea_dk ((ev_nd T.N ia (((na1.go ia r2).go ia r3).go ia r4) (by simp [ndF]) (nd_rights n) (ev_is rfl)).imp fun v H' w e => ?_) fun H5 r5 => ea_dk (ev_kI (ev_is rfl)) fun _ _ => ea_dkN) (by show 5 ≤ 100000; decide)) fun v H6 r6 f6 => q H6 v (r1.tr r6) (f6 H6 .refl)
      rw [show v = n.rt from e]
      exact ((rta.w (r1.tr (r2.tr (r3.tr r4))).w).w w).dk)]
  intro b q h; simpa using FB.pinF b h
  eq_refl
theorem ok__told_of (T : Tx P K mg cs A_) (d__told_of : Df K mg "_told_of" s__told_of ["core", "user", "node", "word"]) (d_lets : Df K mg "lets" s_lets ["members", "user", "sign", "node"]) (G_lets : FnOk P w K mg base CX0 1 d_lets.f d_lets.fd ["members", "user", "sign", "node"] (spLets K cs.Folder cs.File)) :
    FnOk P w K mg base CX0 2 d__told_of.f d__told_of.fd ["core", "user", "node", "word"] (spToldOf K cs.Folder cs.File cs.Core) := by
  refine' @FB.also _ _ ?_ ?_ ?_; rotate_left
  · intro wit__; simp only [↓FB.viaW wit__ (by
      clear wit__
      refine d__told_of.F.ok sc__told_of (fun vs H Q E ⟨_, _, _, _, _, _, _, _, _, _, e, _⟩ => by rw [e]; rfl) (fun cdv A outer s H vs Q E hr h => ?_)
      obtain ⟨z, c, co, fo, ws, N, user, a, n, wv, rfl, hz, hc, hn, hwv, h64, q⟩ := h
      refine ⟨_, (pss_cons (ps_set (i := 4) sc__told_of.nd rfl (.inr rfl) (k_fld (K := K) (pv 2) rfl))
        (pss_cons (ps_if (PW.pt (pw_and (pt_cmpR op_isN (pv 4) pe_non (nomark _)) (pw_and1 (pt_cmpR op_eq (pv 3) pe_str (nomark _)))))
        (pss_one (ps_ret (pe_tup (pa_cons pe_str (pa_cons pe_str pa_nil)))))
        pss_nil)
        (pss_cons (ps_if (PW.pt (pw_and (pt_cmpR op_notN (pv 4) pe_non (nomark _)) (pw_and1 (pt_cmpR op_eq (pv 3) pe_str (nomark _)))))
        (pss_one (ps_ret (pe_tup (pa_cons pe_str (pa_cons pe_str pa_nil)))))
        pss_nil)
        (pss_cons (ps_if (PW.pt (pw_and (pt_not (pt_val (k_fld (K := K) (pv 2) rfl))) (pw_and1 (pt_not (pt_val (pe_call G_lets (hr.mono (by decide)) (by rfl) d_lets.g d_lets.F.kp d_lets.b .nil pass0 (pa_cons (k_fld (K := K) (pv 0) rfl) (pa_cons (pv 1) (pa_cons pe_str (pa_cons (pv 2) pa_nil))))))))))
        (pss_one (ps_ret (pe_glob (v := .ref A_.NO_RIGHT) (by rfl) T.c_NO_RIGHT rfl)))
        pss_nil)
        (pss_cons (ps_if (pt_cmpR op_isN (pv 4) pe_non (nomark _))
        (pss_one (ps_ret (pe_tup (pa_cons pe_str (pa_cons (k_fld (K := K) (pv 2) rfl) pa_nil)))))
        pss_nil)
        (pss_one (ps_ret (pe_tup (pa_cons pe_str (pa_cons (pe_callTy (k_tuple (K := K)) (by rfl) T.tuple (by decide +kernel) (pa_cons (pe_lc (own := [("name", 5)]) (g := gName 5) rfl sc__told_of.nd  (k_pil (K := K) (pi_list (pe_callB k_sortedD (by rfl) T.sorted (by decide +kernel) (pa_cons (pv 4) pa_nil)))) (blkOk_by (own := [("name", 5)]) (N := ["core", "user", "node", "word", "names", "name"]) (sc := defScope s__told_of) (by decide +kernel)) (fun _ _ _ _ _ => (pg_name (i := 5) sc__told_of.nd rfl (Or.inl rfl))) (fun _ _ _ _ _ => pts_nil) (fun _ _ _ _ _ => (pe_tup (pa_cons (pv 5) (pa_cons (k_fld (K := K) (pe_dget (lt1 hr.units) (pv 4) (pv 5) (fun _ _ => rfl)) rfl) pa_nil))))) pa_nil)) pa_nil)))))))))), ?_⟩
      have sc1 : scal wv (.str "list") = true := by rcases hwv with rfl | rfl | rfl <;> rfl
      have sc2 : scal wv (.str "read") = true := by rcases hwv with rfl | rfl | rfl <;> rfl
      obtain ⟨ia, na, rta⟩ := hc.ht.at_ a n hn
      refine q_set (z := z) (φ := Is (nmV n.nm)) hz (ev_nd T.N ia na (by simp [ndF]) (nd_names n) (ev_is rfl)) fun v1 H1 r1 f1 => ?_
      have e1 := f1 H1 .refl
      subst e1
      have fin : ∀ {H2 : Hp} {te : TE} {σ : L2.St} {D : Ends} {d : PyData}, z.R H H2 → D.rt = Q → TO fo user N wv n d → Ev z te σ H2 (DK K z d) → tRet te D σ H2 := fun r er t h => s_ret (z := z) r.dr h fun v' H3 r3 f => by
        rw [er]
        exact q H3 v' _ (r.tr r3) t (f H3 .refl)
      refine q_if (z := z) (b := n.nm.isNone && decide (wv = .str "list")) r1.dr (et_and (et_test (ev_to (ev_isN (ev_is rfl)) (by rw [nm_non]))) fun _ => et_test (ev_eq (ev_is rfl) ev_k sc1)) (fun hb H2 r2 => ?_) (fun hb1 H2 r2 => ?_)
      · rw [Bool.and_eq_true] at hb
        have hw := of_decide_eq_true hb.2
        exact fin (r1.tr r2) rfl (by rw [hw]; exact .nofolder (Option.isNone_iff_eq_none.mp hb.1)) (ev_no fun _ _ => ev_k)
      have r12 := r1.tr r2
      refine q_if (z := z) (b := !n.nm.isNone && decide (wv = .str "read")) r2.dr (et_and (et_test (ev_to (ev_notN (ev_is rfl)) (by rw [nm_non]))) fun _ => et_test (ev_eq (ev_is rfl) ev_k sc2)) (fun hb H3 r3 => ?_) (fun hb2 H3 r3 => ?_)
      · rw [Bool.and_eq_true] at hb
        have hw := of_decide_eq_true hb.2
        exact fin (r12.tr r3) rfl (by
          rw [hw]
          refine .nofile ?_
          cases e : n.nm with
          | none => rw [e] at hb; cases hb.1
          | some d => rfl) (ev_no fun _ _ => ev_k)
      have no1 : ¬ (n.nm = none ∧ wv = .str "list") := fun ⟨x, y⟩ => by
        rw [x, y] at hb1
        simp at hb1
      have no2 : ¬ (n.nm.isSome = true ∧ wv = .str "read") := fun ⟨x, y⟩ => by
        rw [y] at hb2
        cases e : n.nm with
        | none => rw [e] at x; cases x
        | some d => rw [e] at hb2; simp at hb2
      have r13 := r12.tr r3
      have hc3 := hc.go r13
      have na3 := na.go ia r13
      refine q_if (z := z) (b := !mayN fo user 114 n) r3.dr (et_to (et_and (a := !n.op) (b := !mayN fo user 114 n) (et_not (et_B (ev_nd T.N ia na3 (by simp [ndF]) (nd_op n) (ev_is rfl)))) fun _ => et_not (et_B (ev_lets hc3.nq hc3.hm ia na3 (rta.w r13.w) (ev_co T.CO hc3.nc hc3.hc (by simp [coF]) rfl (ev_is rfl)) (fun _ _ => ev_is rfl) (fun _ _ => ev_k) fun _ _ => ev_is rfl))) (by rw [hc.ht.op a n hn]; exact open_may)) (fun hb4 H4 r4 => ?_) (fun hb4 H4 r4 => ?_)
      · exact fin (r13.tr r4) rfl (.noright no1 no2 (by simpa using hb4)) (ev_cst (xs := ["no", "noright"]) T.q_NO_RIGHT)
      have hmay : mayN fo user 114 n = true := by simpa using hb4
      have r14 := r13.tr r4
      have hc4 := hc.go r14
      have na4 := na.go ia r14
      refine q_if (z := z) (b := n.nm.isNone) r4.dr (et_test (ev_to (ev_isN (ev_is rfl)) (by rw [nm_non]))) (fun hb5 H5 r5 => ?_) (fun hb5 H5 r5 => ?_)
      · have hnm : n.nm = none := Option.isNone_iff_eq_none.mp hb5
        have r15 := r14.tr r5
        have nl : H5 a = some (.ins cs.File n.dx n.flds) := by
          have h1 : H5 a = some (.ins (if n.nm.isSome then cs.Folder else cs.File) n.dx n.flds) := na.go ia r15
          rw [hnm] at h1
          exact h1
        refine fin r15 rfl (.cells hnm (fun e => no1 ⟨hnm, e⟩) hmay) (ev_tupK (ea_dk (ev_kS ev_k) fun H6 r6 => ea_dk ((ev_fld ia (r6.kp a _ ia nl) T.N.cL (T.N.nL _ (by simp)) (nd_parts n hnm) (ev_is rfl)).imp fun v H' w e => ?_) fun _ _ => ea_dkN) (by show 2 ≤ 100000; decide))
        rw [show v = n.parts from e]
        exact (((hc.ht.pa a n hn hnm).w (r15.tr r6).w).w w).dk (nd_pa _)
      obtain ⟨d, hd⟩ : ∃ d, n.nm = some d := by
        cases e : n.nm with
        | none => rw [e] at hb5; cases hb5
        | some d => exact ⟨d, rfl⟩
      have hs : n.nm.isSome = true := by rw [hd]; rfl
      have r15 := r14.tr r5
      have hc5 := hc.go r15
      obtain ⟨nd, hdd⟩ := hc5.ht.kd a n d hn hd
      have var4 : ∀ {z' : Zn} {H' : Hp} {σ : L2.St}, σ[4]? = some (some (nmV n.nm)) → Ev z' (tVar 4) σ H' (Is (.ref d)) := fun e => by
        rw [hd] at e
        exact ev_is e
      refine fin r15 rfl (.list hs (fun e => no2 ⟨hs, e⟩) hmay) (ev_tupK (ea_dk (ev_kS ev_k) fun H6 r6 => ea_dk (ev_tupleK (ds := (namesN n).map fun x => .tuple [.str x, .str (kidKind N n.kids x)]) ((ev_lcG (P := (· = ((namesN n).map V.str).length)) (φ := fun i v H' => ∃ x, (namesN n)[i]? = some x ∧ DK K z (.tuple [.str x, .str (kidKind N n.kids x)]) v H') (ei_lst (K := K) (ev_sortedD nd (r6.kp d _ nd hdd) (kids_keys n.kids) (by rw [List.length_map]; exact h64) (var4 rfl))) (fun m h => by
        have e : (namesN n).length = n.kids.length := by
          unfold namesN
          rw [(srt_perm _).length_eq, List.length_map]
        rw [h, List.length_map, e]
        omega) fun m i x D H7 _ hi hx hD r7 rD => ?_).imp ?_)) fun _ _ => ea_dkN) (by show 2 ≤ 100000; decide))
      · rw [List.getElem?_map] at hx
        obtain ⟨y, hy, rfl⟩ := Option.map_eq_some_iff.mp hx
        refine ⟨_, fun k hk => hk, rfl, ?_⟩
        have hy2 : y ∈ n.kids.map (·.1) := (srt_perm _).mem_iff.mp (List.mem_of_getElem? hy)
        obtain ⟨⟨y', b0⟩, hm, rfl⟩ := List.mem_map.mp hy2
        obtain ⟨b, hb⟩ : ∃ b, kidOf n.kids y' = some b := by
          cases e : kidOf n.kids y' with
          | some b => exact ⟨b, rfl⟩
          | none =>
            unfold kidOf at e
            rw [Option.map_eq_none_iff, List.find?_eq_none] at e
            exact absurd (decide_eq_true rfl) (e _ hm)
        obtain ⟨nb, hnb⟩ := hc.ht.ok a n y' b hn (kidOf_mem hb)
        have ek : kidKind N n.kids y' = kindS nb := by
          unfold kidKind
          rw [hb]
          simp only [hnb]
        have r17 : z.R H5 H7 := r6.tr r7
        have hd7 : H7 d = some (.dK (kidsK n.kids)) := r17.kp d _ nd hdd
        obtain ⟨ib, hbat, _⟩ := (hc5.go r17).ht.at_ b nb hnb
        refine (ev_tupK (z := z.add D) (K := K) (ds := [.str y', .str (kindS nb)]) (ea_dk (ev_kS (ev_is rfl)) fun H8 r8 => ea_dk (ev_kS (ev_nd (z := z.add D) T.N ib (hbat.go (z := z) ib r8.dn) (by simp [ndF]) (nd_kind nb) (ev_dgetS (z := z.add D) (x := y') nd (r8.dn.kp d _ nd hd7) (var4 rfl) (fun _ _ => ev_is rfl) (by rw [kids_val, hb]; rfl)))) fun _ _ => ea_dkN) (by show 2 ≤ 100000; decide)).imp fun v H' _ h => ⟨y', hy, ?_⟩
        rw [ek]
        exact DK.sub h
      · rintro v H' _ ⟨p, ws', e, nu, hp, h1, h2⟩
        refine ⟨p, ws', e, nu, hp, dka_of ?_ fun i u hu => ?_⟩
        · rw [h1, List.length_map, List.length_map]
        · obtain ⟨x, hx, k⟩ := h2 i u hu
          exact ⟨_, by rw [List.getElem?_map, hx]; rfl, k⟩)]
  intro b q h; simpa using FB.pinF b h
  eq_refl
end
end K05
set_option Elab.async false
set_option linter.all false
set_option maxRecDepth 100000
set_option maxHeartbeats 4000000
namespace K05
open PySem PySem.Spec PyProof.Rows L2 FB RZ
section
variable {P : Program} {w : World} {K : PySem.W.Frag} {mg : Str → Option Value} {base : Heap} {cs : Cs} {A_ : As}
theorem ev_lastD {z : Zn} {σ : L2.St} {H : Hp} {te : TE} {ds : List PyData} {d : PyData} (h : Ev z te σ H (Dd z (.tuple ds))) (hd : ds.getLast? = some d) : Ev z (tOp (rIxT K) te (tUn (rU fun i => .int (-i)) (tC (.int 1)))) σ H (Dd z d) := by
  refine' @FB.also _ _ ?_ ?_ ?_; rotate_left
  · intro wit__; simp only [↓FB.viaW wit__ (by
      clear wit__
      exact ev_op h (fun _ H1 r _ => ev_neg1) fun y w H1 r fy ew Q q => by
          obtain ⟨p, us, e1, np, hp, du⟩ := DU.tupAt fy
          have hlen := du.len
          have ew' : w = .int (-1) := ew
          have hne : ds ≠ [] := fun e => by rw [e] at hd; cases hd
          have hl : 0 < ds.length := List.length_pos_iff.mpr hne
          have hj : us.length - 1 < us.length := by omega
          have hu : us[us.length - 1]? = some us[us.length - 1] := List.getElem?_eq_getElem hj
          obtain ⟨d', hd', dv⟩ := du.at hu
          have ed : d' = d := by
            rw [List.getLast?_eq_getElem?, ← hlen, hd'] at hd
            exact Option.some.inj hd
          refine ⟨p, _, -1, us[us.length - 1], e1, ew', .inl (.inl hp), ?_, q _ H1 r.dr fun H2 w2 => ?_⟩
          · unfold atI ixN
            rw [if_neg (by decide), if_pos (by omega), show (-1 + (us.length : Int)).toNat = us.length - 1 by omega]
            exact hu
          · rw [← ed]
            exact dv.w w2)]
  intro b q h; simpa using FB.pinF b h
  eq_refl
theorem dee_tells_in (e : Dee) (h : e.rest = []) : inV (.str e.word) ((["read", "list", "look"] : List Str).map V.str) = e.tells := by
  refine' @FB.also _ _ ?_ ?_ ?_; rotate_left
  · intro wit__; simp only [↓FB.viaW wit__ (by
      clear wit__
      cases e with
      | make f xs =>
        cases f with
        | true => exact (by decide +kernel : inV (.str "folder") ((["read", "list", "look"] : List Str).map V.str) = false)
        | false => exact (by decide +kernel : inV (.str "file") ((["read", "list", "look"] : List Str).map V.str) = false)
      | strike xs => exact (by decide +kernel : inV (.str "strike") ((["read", "list", "look"] : List Str).map V.str) = false)
      | look xs => exact (by decide +kernel : inV (.str "look") ((["read", "list", "look"] : List Str).map V.str) = true)
      | list xs => exact (by decide +kernel : inV (.str "list") ((["read", "list", "look"] : List Str).map V.str) = true)
      | read xs => exact (by decide +kernel : inV (.str "read") ((["read", "list", "look"] : List Str).map V.str) = true)
      | _ => cases h)]
  intro b q h; simpa using FB.pinF b h
  eq_refl
theorem dee_not_old (e : Dee) : e.word ≠ "old" := by
  refine' @FB.also _ _ ?_ ?_ ?_; rotate_left
  · intro wit__; simp only [↓FB.viaW wit__ (by
      clear wit__
      cases e with
      | make f xs =>
        cases f with
        | true => exact (by decide +kernel : ("folder" : Str) ≠ "old")
        | false => exact (by decide +kernel : ("file" : Str) ≠ "old")
      | strike xs => exact (by decide +kernel : ("strike" : Str) ≠ "old")
      | rights => exact (by decide +kernel : ("rights" : Str) ≠ "old")
      | link => exact (by decide +kernel : ("link" : Str) ≠ "old")
      | move => exact (by decide +kernel : ("move" : Str) ≠ "old")
      | cut => exact (by decide +kernel : ("cut" : Str) ≠ "old")
      | look xs => exact (by decide +kernel : ("look" : Str) ≠ "old")
      | list xs => exact (by decide +kernel : ("list" : Str) ≠ "old")
      | read xs => exact (by decide +kernel : ("read" : Str) ≠ "old"))]
  intro b q h; simpa using FB.pinF b h
  eq_refl
theorem dee_tells_rest {e : Dee} (h : e.tells = true) : e.rest = [] := by
  refine' @FB.also _ _ ?_ ?_ ?_; rotate_left
  · intro wit__; simp only [↓FB.viaW wit__ (by
      clear wit__
      cases e <;> first | rfl | cases h)]
  intro b q h; simpa using FB.pinF b h
  eq_refl
theorem ok_told (T : Tx P K mg cs A_) (d_told_of_path : Df K mg "told_of_path" s_told_of_path ["core", "user", "deed"]) (d_gone_along : Df K mg "gone_along" s_gone_along ["members", "top", "path", "user"]) (d__looked : Df K mg "_looked" s__looked ["node"]) (d__told_of : Df K mg "_told_of" s__told_of ["core", "user", "node", "word"])
    (G_gone_along : FnOk P w K mg base CX0 3 d_gone_along.f d_gone_along.fd ["members", "top", "path", "user"] (spGone K cs.Folder cs.File)) (G__looked : FnOk P w K mg base CX0 1 d__looked.f d__looked.fd ["node"] (spLooked K cs.Folder cs.File)) (G__told_of : FnOk P w K mg base CX0 2 d__told_of.f d__told_of.fd ["core", "user", "node", "word"] (spToldOf K cs.Folder cs.File cs.Core)) : FnOk P w K mg base CX0 4 d_told_of_path.f d_told_of_path.fd ["core", "user", "deed"] (spTold K cs.Folder cs.File cs.Core) := by
  refine' @FB.also _ _ ?_ ?_ ?_; rotate_left
  · intro wit__; simp only [↓FB.viaW wit__ (by
      clear wit__
      refine d_told_of_path.F.ok sc_told_of_path (fun vs H Q E ⟨_, _, _, _, _, _, _, _, _, e, _⟩ => by rw [e]; rfl) (fun cdv A outer s H vs Q E hr h => ?_)
      obtain ⟨z, c, co, fo, ws, N, user, v, e, rfl, hz, hc, hv, hg, hkl, qn, qt⟩ := h
      refine ⟨_, (pss_cons (ps_if (PW.pt (pw_or (pt_not (pt_val (pe_callB (k_isi (K := K)) (by rfl) T.isinstance (by decide +kernel) (pa_cons (pv 2) (pa_cons (pe_bltn (v := .ty "tuple") (by rfl) T.tuple (by decide +kernel) rfl) pa_nil))))) (pw_or1 (pt_not (pt_chain op_le op_le pe_int (pe_callB (k_len (K := K)) (by rfl) T.len PySem.boot_len (pa_cons (pv 2) pa_nil)) pe_int)))))
        (pss_one (ps_ret pe_non))
        pss_nil)
        (pss_cons (ps_par3 (i := 3) (j := 4) (l := 5) (by rfl) sc_told_of_path.nd rfl rfl rfl (by decide) (by decide) (by decide) rfl rfl rfl (pa_cons (pe_ix (k_ixt (K := K)) (pv 2) pe_int (fun _ _ => rfl)) (pa_cons (pe_ix (k_ixt (K := K)) (pv 2) (pe_un un_neg pe_int) (fun _ _ => rfl)) (pa_cons (k_fld (K := K) (pv 0) rfl) pa_nil))) (by rfl))
        (pss_cons (ps_if (pt_cmpR op_eq (pe_callB (k_len (K := K)) (by rfl) T.len PySem.boot_len (pa_cons (pv 2) pa_nil)) pe_int (nomark _))
        (pss_cons (ps_set (i := 6) sc_told_of_path.nd rfl (.inl rfl) (pe_ix (k_ixt (K := K)) (pv 2) pe_int (fun _ _ => rfl)))
        (pss_cons (ps_if (PW.pt (pw_or (pt_cmpR op_ne (pv 3) pe_str (nomark _)) (pw_or1 (pt_not (pt_val (pe_callB (k_isi (K := K)) (by rfl) T.isinstance (by decide +kernel) (pa_cons (pv 6) (pa_cons (pe_bltn (v := .ty "str") (by rfl) T.str (by decide +kernel) rfl) pa_nil))))))))
        (pss_one (ps_ret pe_non))
        pss_nil)
        (pss_cons (ps_if (pt_cmp (pc_dnotin (lt1 hr.units) (pv 6) (k_fld (K := K) (pv 0) rfl)) (by rfl))
        (pss_one (ps_ret pe_non))
        pss_nil)
        (pss_one (ps_set (i := 5) sc_told_of_path.nd rfl (.inl rfl) (pe_dget (lt1 hr.units) (k_fld (K := K) (pv 0) rfl) (pv 6) (fun _ _ => rfl)))))))
        (pss_one (ps_if (pt_cmpR (k_notIn (K := K)) (pv 3) (pe_glob (v := .ref A_.PATH_WORDS) (by rfl) T.c_PATH_WORDS rfl) (by rfl))
        (pss_one (ps_ret pe_non))
        pss_nil)))
        (pss_cons (ps_set (i := 7) sc_told_of_path.nd rfl (.inl rfl) (pe_call G_gone_along (hr.mono (by decide)) (by rfl) d_gone_along.g d_gone_along.F.kp d_gone_along.b .nil pass0 (pa_cons (k_fld (K := K) (pv 0) rfl) (pa_cons (pv 5) (pa_cons (pv 4) (pa_cons (pv 1) pa_nil))))))
        (pss_cons (ps_if (pt_cmpR op_isN (pv 7) pe_non (nomark _))
        (pss_one (ps_ret pe_non))
        pss_nil)
        (pss_cons (ps_if (pt_val (pe_callB (k_isi (K := K)) (by rfl) T.isinstance (by decide +kernel) (pa_cons (pv 7) (pa_cons (pe_bltn (v := .ty "str") (by rfl) T.str (by decide +kernel) rfl) pa_nil))))
        (pss_one (ps_ret (pe_tup (pa_cons pe_str (pa_cons (pv 7) pa_nil)))))
        pss_nil)
        (pss_cons (ps_if (pt_cmpR op_eq (pv 3) pe_str (nomark _))
        (pss_one (ps_ret (pe_tup (pa_cons pe_str (pa_cons (pe_call G__looked (hr.mono (by decide)) (by rfl) d__looked.g d__looked.F.kp d__looked.b .nil pass0 (pa_cons (pv 7) pa_nil)) pa_nil)))))
        pss_nil)
        (pss_one (ps_ret (pe_call G__told_of (hr.mono (by decide)) (by rfl) d__told_of.g d__told_of.F.kp d__told_of.b .nil pass0 (pa_cons (pv 0) (pa_cons (pv 1) (pa_cons (pv 7) (pa_cons (pv 3) pa_nil)))))))))))))), ?_⟩
      have fin : ∀ {H1 : Hp} {σ : L2.St} {D : Ends}, e.tells = false → z.R H H1 → D.rt = Q → tRet (tC .non) D σ H1 := fun et r1 er => s_ret (z := z) (φ := Is .non) r1.dr ev_k fun v' H2 r2 f => by
        have e := f H2 .refl
        subst e
        rw [er]
        exact qn et H2 (r1.tr r2)
      have len : ∀ {H1 : Hp} {σ : L2.St}, z.W H H1 → σ[2]? = some (some v) → Ev z (tCB (fun xs H Q => ∃ y n, xs = [y] ∧ LenV K y H n ∧ Q (.int n) H) (tCons (tVar 2) tNil)) σ H1 (Is (.int ((e.rest.length : Int) + 2))) := fun w es => ev_to (ev_lenDT (ds := .str e.word :: paS e.path :: e.rest) (ev_var es fun H' w2 => (hv.w w).w w2)) (by rw [List.length_cons, List.length_cons]; push_cast; congr 1)
      have tno : e.rest ≠ [] → e.tells = false := fun h => by
        cases et : e.tells with
        | false => rfl
        | true => exact absurd (dee_tells_rest et) h
      refine q_if (z := z) (b := decide (2 ≤ e.rest.length)) hz (et_to (et_or (a := false) (b := decide (2 ≤ e.rest.length)) (et_not (et_B (ev_isi (d := e.data) (ev_var rfl fun H' w => hv.w w) (kit_tup _)))) fun _ => et_to (et_not (et_B (ev_chain (x := .int 2) (y := .int ((e.rest.length : Int) + 2)) (w := .int 3) (a := true) (b := decide ((e.rest.length : Int) + 2 ≤ 3)) ev_k (len .refl rfl) (fun _ => ev_k) (fun H1 r => rn_val r.dr (fun Q q => ⟨_, _, rfl, rfl, by show Q (.bl (decide ((2 : Int) ≤ (e.rest.length : Int) + 2))) _; rw [decide_eq_true (by omega : (2 : Int) ≤ (e.rest.length : Int) + 2)]; exact q⟩) fun _ _ => rfl) (fun H1 r => rn_val r.dr (fun Q q => ⟨_, _, rfl, rfl, q⟩) fun _ _ => rfl)))) ?_) (by rw [Bool.false_or])) (fun hb H1 r1 => ?_) (fun hb H1 r1 => ?_)
      · by_cases h2 : 2 ≤ e.rest.length
        · rw [decide_eq_true h2, decide_eq_false (by omega : ¬ (e.rest.length : Int) + 2 ≤ 3)]
          rfl
        · rw [decide_eq_false h2, decide_eq_true (by omega : (e.rest.length : Int) + 2 ≤ 3)]
          rfl
      · exact fin (tno fun h => by rw [h] at hb; cases hb) r1 rfl
      have hlt : ¬ 2 ≤ e.rest.length := of_decide_eq_false hb
      have hc1 := hc.go r1
      obtain ⟨dl, hdl⟩ : ∃ dl, (.str e.word :: paS e.path :: e.rest : List PyData).getLast? = some dl := by
        rw [List.getLast?_cons]
        exact ⟨_, rfl⟩
      refine q_par3 (z := z) (Φ := fun a b d H' => a = .str e.word ∧ DU z.U H' b dl ∧ d = .ref co.top) r1.dr ((ea_cons (φ := Is (.str e.word)) ((ev_ixDT (j := 0) (d := .str e.word) (ds := .str e.word :: paS e.path :: e.rest) (ev_var rfl fun H' w => (hv.w r1.w).w w) (fun _ _ => ev_k) rfl).imp fun v' H' _ f => DU.strAt f) fun _ H2 r2 _ => ea_cons (φ := Dd z dl) (ev_lastD (ds := .str e.word :: paS e.path :: e.rest) (ev_var rfl fun H' w => (hv.w (r1.tr r2).w).w w) hdl) fun _ H3 r3 _ => ea_is (ev_co T.CO hc1.nc ((hc1.go (r2.tr r3)).hc) (by simp [coF]) (rfl : co.flds.lookup ("top" : Str) = some (.ref co.top)) (ev_is rfl)) ea_nil).imp ?_) fun va vb vd H2 r2 f2 => ?_
      · rintro vs H' _ ⟨a, r, rfl, ea, b, r', rfl, hb', er⟩
        exact ⟨a, b, .ref co.top, by rw [er], ea, hb', rfl⟩
      obtain ⟨e1, hvb, e2⟩ := f2 H2 .refl
      subst e1
      subst e2
      have r12 := r1.tr r2
      match hr : e.rest with
      | _ :: _ :: _ => rw [hr] at hlt; simp at hlt
      | [d1] =>
        have htf : e.tells = false := tno (by rw [hr]; simp)
        refine q_ifE (z := z) (b := true) r2.dr (et_test (ev_to (ev_eq (len r12.w rfl) ev_k rfl) (by rw [hr]; rfl))) (fun _ H3 r3 => ?_) (fun hb => by cases hb)
        refine q_set (z := z) (i := 6) (φ := fun _ _ => True) r3.dr ((ev_ixDT (j := 1) (d := paS e.path) (ds := .str e.word :: paS e.path :: e.rest) (ev_var rfl fun H' w => (hv.w (r12.tr r3).w).w w) (fun _ _ => ev_k) rfl).imp fun _ _ _ _ => trivial) fun v6 H4 r4 _ => ?_
        refine q_if (z := z) (b := true) r4.dr (fun H5 e5 Q5 q5 => (et_test (ev_ne (x := .str e.word) (y := .str "old") (ev_is rfl) ev_k rfl)) H5 e5 _ fun b H6 r6 eb => ?_) (fun _ H5 r5 => fin htf (r12.tr (r3.tr (r4.tr r5))) rfl) fun hb => by cases hb
        have : b = true := by
          rw [eb]
          have hne : ¬ (V.str e.word = V.str "old") := fun e' => dee_not_old e (by injection e')
          rw [decide_eq_false hne]
          rfl
        subst this
        exact q5 true H6 r6 rfl
      | [] =>
        have hin := dee_tells_in e hr
        have hdl' : dl = paS e.path := by
          rw [hr] at hdl
          exact (Option.some.inj hdl).symm
        subst hdl'
        refine q_ifE (z := z) (b := false) r2.dr (et_test (ev_to (ev_eq (len r12.w rfl) ev_k rfl) (by rw [hr]; rfl))) (fun hb => by cases hb) fun _ H3 r3 => ?_
        refine s_if0 (z := z) (b := !e.tells) r3.dr (et_test (ev_to (ev_notIn (xs := (["read", "list", "look"] : List Str).map V.str) (ev_is rfl) ev_k (fun H4 _ => .inr (T.q_PATH_WORDS H4)) rfl rfl) (by rw [hin]))) (fun ht H4 r4 => fin (by simpa using ht) (r12.tr (r3.tr r4)) rfl) fun ht H4 r4 => ?_
        have et : e.tells = true := by simpa using ht
        have r14 := r12.tr (r3.tr r4)
        have hc4 := hc.go r14
        have hvb4 := hvb.w (z := z) (r3.tr r4).w
        show tSeq _ _ _ _ _
        refine q_set (z := z) (i := 7) (φ := Is (outV (goN N fo user e.path co.top))) r4.dr (ev_call (Φ := fun vs _ => vs = [.ref co.mem, .ref co.top, vb, .str user]) (ea_is (ev_co T.CO hc4.nc hc4.hc (by simp [coF]) rfl (ev_is rfl)) (ea_is (ev_is rfl) (ea_is (ev_is rfl) (ea_is (ev_is rfl) ea_nil)))) fun vs H5 r5 e5 Q5 q5 => ⟨z, co.mem, co.top, fo, ws, user, vb, e.path, N, by rw [e5]; rfl, r5.dr, hc4.nq, (hc4.go r5).hm, hvb4.w r5.w, hg.path, (hc4.go r5).ht, hc4.n0, fun H' r' => q5 _ H' r' fun _ _ => rfl⟩) fun v7 H5 r5 f5 => ?_
        have e7 := f5 H5 .refl
        subst e7
        have r15 := r14.tr r5
        have hc5 := hc.go r15
        have okb : ∀ b, goN N fo user e.path co.top = .inr b → ∃ n, N b = some n := fun b e => goN_node hc.ht.ok _ _ b hc.n0 e
        refine q_if (z := z) (b := false) r5.dr (et_test (ev_to (ev_isN (ev_is rfl)) (by cases goN N fo user e.path co.top <;> rfl))) (fun hb => by cases hb) fun _ H6 r6 => ?_
        have r16 := r15.tr r6
        have tell : ∀ {H7 : Hp} {te : TE} {σ : L2.St} {D : Ends} {d : PyData}, z.R H H7 → D.rt = Q → Raw fo co.top user N e d → Ev z te σ H7 (DK K z d) → tRet te D σ H7 := fun r er t h => s_ret (z := z) r.dr h fun v' H8 r8 f => by
          rw [er]
          exact qt et H8 v' _ (r.tr r8) t (f H8 .refl)
        refine q_if (z := z) r6.dr (et_B (ev_isS T.N T.KD (hc5.go r6).ht okb (ev_is rfl))) (fun hb H7 r7 => ?_) (fun hb H7 r7 => ?_)
        · cases eg : goN N fo user e.path co.top with
          | inr b => rw [eg] at hb; cases hb
          | inl wd => exact tell (r16.tr r7) rfl (.no et eg) (ev_no fun _ _ => ev_is rfl)
        cases eg : goN N fo user e.path co.top with
        | inl wd => rw [eg] at hb; cases hb
        | inr a =>
          obtain ⟨n, hn⟩ := okb a eg
          have r17 := r16.tr r7
          have hc7 := hc.go r17
          have tof : ∀ {H8 : Hp} {σ : L2.St} {D : Ends} {wd : Str}, z.R H H8 → D.rt = Q → (V.str wd = .str "list" ∨ V.str wd = .str "read" ∨ V.str wd = .non) → (∀ d, TO fo user N (.str wd) n d → Raw fo co.top user N e d) → σ[0]? = some (some (.ref c)) → σ[1]? = some (some (.str user)) → σ[7]? = some (some (.ref a)) → σ[3]? = some (some (.str wd)) → tRet (tCall (spToldOf K cs.Folder cs.File cs.Core) [] E0 (tCons (tVar 0) (tCons (tVar 1) (tCons (tVar 7) (tCons (tVar 3) tNil))))) D σ H8 := fun {H8 σ D wd} r er hw hR s0 s1 s7 s3 =>
            ⟨_, s0, _, s1, _, s7, _, s3, z, c, co, fo, ws, N, user, a, n, .str wd, rfl, r.dr, hc.go r, hn, hw, hkl a n hn, fun H' v' d r' t k => by
              rw [er]
              exact qt et H' v' d (r.tr r') (hR d t) k⟩
          refine q_if (z := z) (b := decide (V.str e.word = V.str "look")) r7.dr (et_test (ev_eq (ev_is rfl) ev_k rfl)) (fun hb3 H8 r8 => ?_) (fun hb3 H8 r8 => ?_)
          · cases e with
            | look xs =>
              refine tell (r17.tr r8) rfl (.look eg hn) (ev_tupK (ea_dk (ev_kS ev_k) fun H9 r9 => ea_dk (ev_call (Φ := fun vs _ => vs = [.ref a]) (ea_is (ev_is rfl) ea_nil) fun vs H10 r10 e10 Q10 q10 => ⟨z, N, a, n, by rw [e10]; rfl, r10.dr, (hc7.go (r8.tr (r9.tr r10))).ht, hn, fun H' v' r' k => q10 v' H' r' fun H11 w11 => k.w w11⟩) fun _ _ => ea_dkN) (by show 2 ≤ 100000; decide))
            | list xs => cases (show decide (V.str "list" = V.str "look") = true from hb3)
            | read xs => cases (show decide (V.str "read" = V.str "look") = true from hb3)
            | _ => cases et
          · cases e with
            | look xs => exact absurd rfl (of_decide_eq_false hb3)
            | list xs => exact tof (wd := "list") (r17.tr r8) rfl (.inl rfl) (fun d t => .list eg hn t) rfl rfl rfl rfl
            | read xs => exact tof (wd := "read") (r17.tr r8) rfl (.inr (.inl rfl)) (fun d t => .read eg hn t) rfl rfl rfl rfl
            | _ => cases et)]
  intro b q h; simpa using FB.pinF b h
  eq_refl
end
end K05
set_option Elab.async false
set_option linter.all false
set_option maxRecDepth 100000
set_option maxHeartbeats 4000000
namespace K05
open PySem PySem.Spec PyProof.Rows L2 FB RZ
section
variable {P : Program} {w : World} {K : PySem.W.Frag} {mg : Str → Option Value} {base : Heap} {cs : Cs} {A_ : As}
theorem ok_is_word (T : Tx P K mg cs A_) (d_is_word : Df K mg "is_word" s_is_word ["thing"]) : FnOk P w K mg base CX0 1 d_is_word.f d_is_word.fd ["thing"] (spLook Sl isWordD) := by
  refine' @FB.also _ _ ?_ ?_ ?_; rotate_left
  · intro wit__; simp only [↓FB.viaW wit__ (by
      clear wit__
      refine d_is_word.F.ok sc_is_word spLook_len (fun cdv A outer s H vs Q E hr h => ?_)
      obtain ⟨z, v, d, rfl, hz, hv, hs, q⟩ := h
      refine ⟨_, (pss_cons (ps_if (pt_not (pt_val (pe_callB (k_isi (K := K)) (by rfl) T.isinstance (by decide +kernel) (pa_cons (pv 0) (pa_cons (pe_bltn (v := .ty "str") (by rfl) T.str (by decide +kernel) rfl) pa_nil)))))
        (pss_one (ps_ret pe_bl))
        pss_nil)
        (pss_one (ps_ret (pe_and (pe_chain op_le op_le pe_int (pe_callB (k_len (K := K)) (by rfl) T.len PySem.boot_len (pa_cons (pv 0) pa_nil)) (pe_glob (v := .int 8) (by rfl) T.c_MOST_LETTERS ⟨_, rfl⟩)) (pe_one (pe_notT (pe_bm PySem.F.plainAttrs_str PySem.F.slot_str_strip PySem.F.type_str_strip mt_stripChars (pv 0) (pa_cons (pe_glob (v := .str "abcdefghijklmnopqrstuvwxyz") (by rfl) T.c_LETTERS ⟨_, rfl⟩) pa_nil)))))))), ?_⟩
      refine q_if (z := z) hz (et_not (et_B (ev_isi (ev_var rfl fun H' w => hv.w w) (kit_str d)))) (fun hb H1 r1 => ?_) (fun hb H1 r1 => ?_)
      · refine s_ret r1.dr ev_k fun v' H2 r2 f => ?_
        have e : v' = .bl false := f H2 .refl
        have e2 : isWordD d = false := by cases d <;> first | rfl | cases hb
        subst e
        rw [← e2]
        exact q H2 (r1.tr r2)
      · obtain ⟨x, rfl⟩ : ∃ x, d = .str x := by cases d <;> first | exact ⟨_, rfl⟩ | cases hb
        have ev : v = .str x := by cases hv; rfl
        subst ev
        have hx := hs x rfl
        refine s_ret (φ := Is (.bl ((decide ((1 : Int) ≤ (x.length : Int)) && decide ((x.length : Int) ≤ 8)) && x.cps.toList.all low))) r1.dr (ev_and (ev_chain ev_k (ev_lenS (ev_is rfl) (by omega)) (fun _ => ev_k) (fun H2 r2 => rn_i0 r2.dr) (fun H2 r2 => rn_i0 r2.dr)) fun _ => ev_onlyAz (ev_is rfl) ev_k (by omega)) fun v' H3 r3 f => ?_
        have e := f H3 .refl
        subst e
        have e2 : isWordD (.str x) = ((decide ((1 : Int) ≤ (x.length : Int)) && decide ((x.length : Int) ≤ 8)) && x.cps.toList.all low) := by
          show isW x = _
          unfold isW
          congr 2
          · exact decide_eq_decide.mpr (by omega)
          · exact decide_eq_decide.mpr (by omega)
        rw [← e2]
        exact q H3 (r1.tr r3))]
  intro b q h; simpa using FB.pinF b h
  eq_refl
def badS (x : Str) : Bool := (!(!decide (x.length = 0))) || (decide ((8 : Int) < (x.length : Int)) || (!decide ((Txt.stripChars x "abcdefghijklmnopqrstuvwxyz").length = 0)))
theorem badS_is (x : Str) : badS x = !isW x := by
  refine' @FB.also _ _ ?_ ?_ ?_; rotate_left
  · intro wit__; simp only [↓FB.viaW wit__ (by
      clear wit__
      unfold badS isW
      rw [strip_az, Bool.not_not]
      cases x.cps.toList.all low with
      | false => simp
      | true =>
        by_cases h0 : x.length = 0
        · rw [h0]; rfl
        · by_cases h8 : x.length ≤ 8
          · rw [decide_eq_false h0, decide_eq_true h8, decide_eq_true (show 1 ≤ x.length by omega), decide_eq_false (show ¬ (8 : Int) < (x.length : Int) by omega)]
            rfl
          · rw [decide_eq_false h0, decide_eq_false h8, decide_eq_true (show (8 : Int) < (x.length : Int) by omega), Bool.and_false]
            rfl)]
  intro b q h; simpa using FB.pinF b h
  eq_refl
theorem ok_is_path (T : Tx P K mg cs A_) (d_is_path : Df K mg "is_path" s_is_path ["thing"]) : FnOk P w K mg base CX0 2 d_is_path.f d_is_path.fd ["thing"] (spLook Tl isPathD) := by
  refine' @FB.also _ _ ?_ ?_ ?_; rotate_left
  · intro wit__; simp only [↓FB.viaW wit__ (by
      clear wit__
      refine d_is_path.F.ok (k := 1) sc_is_path spLook_len (fun cdv A outer s H vs Q E hr h => ?_)
      obtain ⟨z, v, d, rfl, hz, hv, hs, q⟩ := h
      refine ⟨_, (pss_cons (ps_if (PW.pt (pw_or (pt_not (pt_val (pe_callB (k_isi (K := K)) (by rfl) T.isinstance (by decide +kernel) (pa_cons (pv 0) (pa_cons (pe_bltn (v := .ty "tuple") (by rfl) T.tuple (by decide +kernel) rfl) pa_nil))))) (pw_or1 (pt_cmpR op_gt (pe_callB (k_len (K := K)) (by rfl) T.len PySem.boot_len (pa_cons (pv 0) pa_nil)) (pe_glob (v := .int 6) (by rfl) T.c_MOST_NAMES ⟨_, rfl⟩) (nomark _)))))
        (pss_one (ps_ret pe_bl))
        pss_nil)
        (pss_cons (ps_for PassesOwn.never rfl (k_pit (K := K) (pi_tup (pv 0))) (pg_name (i := 1) sc_is_path.nd rfl (Or.inl rfl))
        (pss_one (ps_if (PW.pt (pw_or (pt_not (pt_val (pe_callB (k_isi (K := K)) (by rfl) T.isinstance (by decide +kernel) (pa_cons (pv 1) (pa_cons (pe_bltn (v := .ty "str") (by rfl) T.str (by decide +kernel) rfl) pa_nil))))) (pw_or (pt_not (pt_truth (pv 1) (by intro _; rfl))) (pw_or (pt_cmpR op_gt (pe_callB (k_len (K := K)) (by rfl) T.len PySem.boot_len (pa_cons (pv 1) pa_nil)) (pe_glob (v := .int 8) (by rfl) T.c_MOST_LETTERS ⟨_, rfl⟩) (nomark _)) (pw_or1 (pt_truth (pe_bm PySem.F.plainAttrs_str PySem.F.slot_str_strip PySem.F.type_str_strip mt_stripChars (pv 1) (pa_cons (pe_glob (v := .str "abcdefghijklmnopqrstuvwxyz") (by rfl) T.c_LETTERS ⟨_, rfl⟩) pa_nil)) (by intro _; rfl)))))))
        (pss_one (ps_ret pe_bl))
        pss_nil)))
        (pss_one (ps_ret pe_bl)))), ?_⟩
      by_cases ht : isTupD d = true
      · obtain ⟨ds, rfl⟩ : ∃ x, d = .tuple x := by cases d <;> first | exact ⟨_, rfl⟩ | cases ht
        obtain ⟨a, vs, rfl, nu, ha, hds⟩ := hv.tupAt
        have hlen := hds.len
        obtain ⟨hl, hx⟩ := hs ds rfl
        have no : ∀ {H2 : Hp} {σ' : L2.St} {N : L2.St → Hp → Prop} {N2 N3 : L2.St → Hp → Prop}, isPathD (.tuple ds) = false → z.R H H2 → tRet (tC (.bl false)) { nx := N, ct := N2, bk := N3, rt := Q } σ' H2 := fun e r => s_ret (z := z) r.dr ev_k fun v' H3 r3 f => by
          have e' : v' = .bl false := f H3 .refl
          subst e'
          show Q (.bl false) H3
          rw [← e]
          exact q H3 (r.tr r3)
        refine q_if (z := z) hz (et_or (et_not (et_B (ev_isi (ev_var rfl fun H' w => hv.w w) (kit_tup _)))) fun _ => et_test (ev_i0 (g := fun i j => .bl (decide (j < i))) (ev_lenT (ev_tupv rfl nu ha)) ev_k)) (fun hb H1 r1 => ?_) (fun hb H1 r1 => ?_)
        · refine no ?_ r1
          show (decide (ds.length ≤ 6) && _) = false
          rw [decide_eq_false fun h => ?_]
          · rfl
          · simp only [isTupD, Bool.not_true, Bool.false_or, decide_eq_true_eq] at hb
            omega
        have h6 : ds.length ≤ 6 := by
          simp only [isTupD, Bool.not_true, Bool.false_or, decide_eq_false_iff_not] at hb
          omega
        refine q_forT (z := z) (xs := vs) r1.dr (ev_tupv rfl nu (r1.w a _ nu ha)) fun H3 r3 => ?_
        have r13 := r1.tr r3
        have hds3 := hds.w r13.w
        refine ⟨fun i σ' H' => z.R H3 H' ∧ ∃ o, σ' = [some (.ref a), o] ∧ ds.all isWordD = (ds.drop i).all isWordD, ⟨r3.dr, none, rfl, rfl⟩, fun i σ' H' hP => hP.1.w, fun i x σ' H' hx' hP => ?_, fun σ' H' hP => ?_⟩
        · obtain ⟨r4, o, rfl, g⟩ := hP
          obtain ⟨d, hd, dv⟩ := (hds3.w r4.w).at hx'
          have hbd := hx d (List.mem_of_getElem? hd)
          rw [drop_at hd] at g
          have g' : ds.all isWordD = (isWordD d && (ds.drop (i + 1)).all isWordD) := g
          have bad : isWordD d = false → isPathD (.tuple ds) = false := fun e => by
            show (_ && ds.all isWordD) = false
            rw [g', e, Bool.false_and, Bool.and_false]
          by_cases hsd : isStrD d = true
          · obtain ⟨x, rfl⟩ : ∃ x, d = .str x := by cases d <;> first | exact ⟨_, rfl⟩ | cases hsd
            have ev := DU.strAt dv
            subst ev
            have hxl : x.length ≤ 1000 := hbd x rfl
            refine s_if (z := z) r4.dr (et_or (et_not (et_B (ev_isi (ev_var rfl fun H' w => dv.w w) (kit_str _)))) fun _ => et_or (et_not (et_txt (x := x) (ev_is rfl) (by omega))) fun _ => et_or (et_test (ev_i0 (g := fun i j => .bl (decide (j < i))) (ev_lenS (ev_is rfl) (by omega)) ev_k)) fun _ => et_txt (ev_strip (x := x) (ev_is rfl) ev_k (by omega)) (Nat.le_trans (len_stripChars _ _) (by omega))) (fun hb2 H5 r5 => ?_) (fun hb2 H5 r5 => ?_)
            · refine no (bad ?_) ((r13.tr r4).tr r5)
              have hb3 : badS x = true := hb2
              rw [badS_is, Bool.not_eq_true'] at hb3
              exact hb3
            · have hb3 : badS x = false := hb2
              rw [badS_is, Bool.not_eq_false'] at hb3
              refine ⟨r4.tr r5, _, rfl, ?_⟩
              rw [g']
              show (isW x && _) = _
              rw [hb3, Bool.true_and]
          · have hsd' : isStrD d = false := by simpa using hsd
            refine s_if (z := z) (b := true) r4.dr (et_to (et_or (b := true) (et_not (et_B (ev_isi (ev_var rfl fun H' w => dv.w w) (kit_str _)))) fun hc => ?_) ?_) (fun hb2 H5 r5 => ?_) (fun hb2 => (by cases hb2))
            · rw [hsd'] at hc; cases hc
            · rw [hsd']; rfl
            · exact no (bad (by cases d <;> first | rfl | cases hsd')) ((r13.tr r4).tr r5)
        · obtain ⟨r4, o, rfl, g⟩ := hP
          rw [hlen, List.drop_length] at g
          refine s_ret (z := z) r4.dr ev_k fun v' H5 r5 f => ?_
          have e : v' = .bl true := f H5 .refl
          subst e
          have e2 : isPathD (.tuple ds) = true := by
            show (decide (ds.length ≤ 6) && ds.all isWordD) = true
            rw [decide_eq_true h6, g]
            rfl
          rw [← e2]
          exact q H5 ((r13.tr r4).tr r5)
      · have ht' : isTupD d = false := by simpa using ht
        refine q_if (z := z) (b := true) hz (et_to (et_or (b := true) (et_not (et_B (ev_isi (ev_var rfl fun H' w => hv.w w) (kit_tup _)))) fun hc => ?_) ?_) (fun hb H1 r1 => ?_) (fun hb => (by cases hb))
        · rw [ht'] at hc; cases hc
        · rw [ht']; rfl
        · refine s_ret r1.dr ev_k fun v' H2 r2 f => ?_
          have e : v' = .bl false := f H2 .refl
          have e2 : isPathD d = false := by cases d <;> first | rfl | cases ht'
          subst e
          rw [← e2]
          exact q H2 (r1.tr r2))]
  intro b q h; simpa using FB.pinF b h
  eq_refl
theorem tup_of {d : PyData} (h : isTupD d = true) : ∃ ds, d = .tuple ds := by
  refine' @FB.also _ _ ?_ ?_ ?_; rotate_left
  · intro wit__; simp only [↓FB.viaW wit__ (by
      clear wit__
      cases d <;> first | exact ⟨_, rfl⟩ | cases h)]
  intro b q h; simpa using FB.pinF b h
  eq_refl
theorem two_of {ds : List PyData} (h : ds.length = 2) : ∃ a b, ds = [a, b] := by
  refine' @FB.also _ _ ?_ ?_ ?_; rotate_left
  · intro wit__; simp only [↓FB.viaW wit__ (by
      clear wit__
      match ds, h with
      | [a, b], _ => exact ⟨a, b, rfl⟩)]
  intro b q h; simpa using FB.pinF b h
  eq_refl
theorem three_of {ds : List PyData} (h : ds.length = 3) : ∃ a b c, ds = [a, b, c] := by
  refine' @FB.also _ _ ?_ ?_ ?_; rotate_left
  · intro wit__; simp only [↓FB.viaW wit__ (by
      clear wit__
      match ds, h with
      | [a, b, c], _ => exact ⟨a, b, c, rfl⟩)]
  intro b q h; simpa using FB.pinF b h
  eq_refl
theorem DUA.two {U : Addr → Prop} {H : Hp} {vs : List V} {a b : PyData} (h : DUA U H vs [a, b]) : ∃ v w, vs = [v, w] ∧ DU U H v a ∧ DU U H w b := by
  refine' @FB.also _ _ ?_ ?_ ?_; rotate_left
  · intro wit__; simp only [↓FB.viaW wit__ (by
      clear wit__
      cases h with
      | cons h1 t =>
        cases t with
        | cons h2 t2 =>
          cases t2
          exact ⟨_, _, rfl, h1, h2⟩)]
  intro b q h; simpa using FB.pinF b h
  eq_refl
theorem DUA.three {U : Addr → Prop} {H : Hp} {vs : List V} {a b c : PyData} (h : DUA U H vs [a, b, c]) : ∃ v w x, vs = [v, w, x] ∧ DU U H v a ∧ DU U H w b ∧ DU U H x c := by
  refine' @FB.also _ _ ?_ ?_ ?_; rotate_left
  · intro wit__; simp only [↓FB.viaW wit__ (by
      clear wit__
      cases h with
      | cons h1 t =>
        obtain ⟨w, x, rfl, h2, h3⟩ := DUA.two t
        exact ⟨_, w, x, rfl, h1, h2, h3⟩)]
  intro b q h; simpa using FB.pinF b h
  eq_refl
theorem ok_rights_text (T : Tx P K mg cs A_) (d__is_rights_text : Df K mg "_is_rights_text" s__is_rights_text ["thing"]) : FnOk P w K mg base CX0 1 d__is_rights_text.f d__is_rights_text.fd ["thing"] (spLook (fun _ => True) isRT) := by
  refine' @FB.also _ _ ?_ ?_ ?_; rotate_left
  · intro wit__; simp only [↓FB.viaW wit__ (by
      clear wit__
      refine d__is_rights_text.F.ok sc__is_rights_text spLook_len (fun cdv A outer s H vs Q E hr h => ?_)
      obtain ⟨z, v, d, rfl, hz, hv, _, q⟩ := h
      refine ⟨_, (pss_one (ps_ret (pe_and (pe_callB (k_isi (K := K)) (by rfl) T.isinstance (by decide +kernel) (pa_cons (pv 0) (pa_cons (pe_bltn (v := .ty "str") (by rfl) T.str (by decide +kernel) rfl) pa_nil))) (pe_one (pe_cmpR (k_in (K := K)) (pv 0) (pe_glob (v := .ref A_.RIGHTS_TEXTS) (by rfl) T.c_RIGHTS_TEXTS rfl) (by rfl)))))), ?_⟩
      by_cases hb : isStrD d = true
      · obtain ⟨x, rfl⟩ : ∃ x, d = .str x := by cases d <;> first | exact ⟨_, rfl⟩ | cases hb
        have ev := DU.strAt hv
        subst ev
        refine s_ret (z := z) hz (ev_and (ev_isi (ev_var rfl fun H' w => hv.w w) (kit_str _)) fun _ => ev_in (ev_is rfl) ev_k (fun H1 _ => .inr (T.q_RIGHTS_TEXTS H1)) rfl rfl) fun v' H3 r3 f3 => ?_
        have e := f3 H3 .refl
        subst e
        exact q H3 r3
      · have hb' : isStrD d = false := by simpa using hb
        refine s_ret (z := z) hz (ev_and (b := true) (ev_isi (ev_var rfl fun H' w => hv.w w) (kit_str _)) fun hc => ?_) fun v' H3 r3 f => ?_
        · rw [hb'] at hc; cases hc
        · have e := f H3 .refl
          subst e
          have e2 : isRT d = (isStrD d && true) := by cases d <;> first | rfl | cases hb'
          rw [← e2]
          exact q H3 r3)]
  intro b q h; simpa using FB.pinF b h
  eq_refl
theorem ok_is_rights (T : Tx P K mg cs A_) (d_is_rights : Df K mg "is_rights" s_is_rights ["thing"]) (d__is_rights_text : Df K mg "_is_rights_text" s__is_rights_text ["thing"]) (G__is_rights_text : FnOk P w K mg base CX0 1 d__is_rights_text.f d__is_rights_text.fd ["thing"] (spLook (fun _ => True) isRT)) :
    FnOk P w K mg base CX0 2 d_is_rights.f d_is_rights.fd ["thing"] (spLook (Bd 3) isRightsD) := by
  refine' @FB.also _ _ ?_ ?_ ?_; rotate_left
  · intro wit__; simp only [↓FB.viaW wit__ (by
      clear wit__
      refine d_is_rights.F.ok sc_is_rights spLook_len (fun cdv A outer s H vs Q E hr h => ?_)
      obtain ⟨z, v, d, rfl, hz, hv, hs, q⟩ := h
      refine ⟨_, (pss_cons (ps_if (pt_not (pt_val (pe_callB (k_isi (K := K)) (by rfl) T.isinstance (by decide +kernel) (pa_cons (pv 0) (pa_cons (pe_bltn (v := .ty "tuple") (by rfl) T.tuple (by decide +kernel) rfl) pa_nil)))))
        (pss_one (ps_ret pe_bl))
        pss_nil)
        (pss_cons (ps_if (pt_cmpR op_ne (pe_callB (k_len (K := K)) (by rfl) T.len PySem.boot_len (pa_cons (pv 0) pa_nil)) pe_int (nomark _))
        (pss_one (ps_ret pe_bl))
        pss_nil)
        (pss_cons (ps_asg (pv 0) (k_pgt (K := K) (n := 3) (pgs_cons (pg_name (i := 1) sc_is_rights.nd rfl (Or.inl rfl)) (pgs_cons (pg_name (i := 2) sc_is_rights.nd rfl (Or.inl rfl)) (pgs_cons (pg_name (i := 3) sc_is_rights.nd rfl (Or.inl rfl)) pgs_nil)))))
        (pss_one (ps_ret (pe_and (pe_call G__is_rights_text (hr.mono (by decide)) (by rfl) d__is_rights_text.g d__is_rights_text.F.kp d__is_rights_text.b .nil pass0 (pa_cons (pv 1) pa_nil)) (pe_and (pe_call G__is_rights_text (hr.mono (by decide)) (by rfl) d__is_rights_text.g d__is_rights_text.F.kp d__is_rights_text.b .nil pass0 (pa_cons (pv 2) pa_nil)) (pe_one (pe_call G__is_rights_text (hr.mono (by decide)) (by rfl) d__is_rights_text.g d__is_rights_text.F.kp d__is_rights_text.b .nil pass0 (pa_cons (pv 3) pa_nil)))))))))), ?_⟩
      have no : ∀ {H2 : Hp} {σ' : L2.St} {N : L2.St → Hp → Prop} {N2 N3 : L2.St → Hp → Prop}, isRightsD d = false → z.R H H2 → tRet (tC (.bl false)) { nx := N, ct := N2, bk := N3, rt := Q } σ' H2 := fun e r => s_ret (z := z) r.dr ev_k fun v' H3 r3 f => by
        have e' : v' = .bl false := f H3 .refl
        subst e'
        show Q (.bl false) H3
        rw [← e]
        exact q H3 (r.tr r3)
      refine q_if (z := z) hz (et_not (et_B (ev_isi (ev_var rfl fun H' w => hv.w w) (kit_tup d)))) (fun hb H1 r1 => ?_) (fun hb H1 r1 => ?_)
      · exact no (by cases d <;> first | rfl | cases hb) r1
      · obtain ⟨ds, rfl⟩ := tup_of (d := d) (by simpa using hb)
        obtain ⟨a, vs, rfl, nu, ha, hds⟩ := hv.tupAt
        have hlen := hds.len
        have ha1 := r1.w a _ nu ha
        refine q_if (z := z) r1.dr (et_test (ev_ne (ev_lenT (ev_tupv rfl nu ha1)) ev_k rfl)) (fun hb2 H2 r2 => ?_) (fun hb2 H2 r2 => ?_)
        · refine no ?_ (r1.tr r2)
          have hne : ds.length ≠ 3 := fun e => by
            rw [hlen, e] at hb2
            cases hb2
          show (decide (ds.length = 3) && _) = false
          rw [decide_eq_false hne]
          rfl
        · have h3 : ds.length = 3 := by
            simp only [Bool.not_eq_false', decide_eq_true_eq] at hb2
            injection hb2 with hb2
            omega
          obtain ⟨da, db, dc, rfl⟩ := three_of h3
          obtain ⟨va, vb, vc, rfl, k1, k2, k3⟩ := DUA.three hds
          refine q_un3 (z := z) r2.dr nu (r2.w a _ nu ha1) (ev_is rfl) fun H3 r3 => ?_
          have w3 := ((r1.tr r2).tr r3).w
          refine s_ret (z := z) r3.dr (ev_and (ev_look (ok := fun _ => True) (f := isRT) (d := da) (ev_var rfl fun H' w => (k1.w w3).w w) trivial) fun _ => ev_and (ev_look (ok := fun _ => True) (f := isRT) (d := db) (ev_var rfl fun H' w => (k2.w w3).w w) trivial) fun _ =>
            ev_look (ok := fun _ => True) (f := isRT) (d := dc) (ev_var rfl fun H' w => (k3.w w3).w w) trivial) fun v' H4 r4 f => ?_
          have e := f H4 .refl
          subst e
          have e2 : isRightsD (.tuple [da, db, dc]) = (isRT da && (isRT db && isRT dc)) := by
            show (true && (isRT da && (isRT db && (isRT dc && true)))) = _
            simp
          show Q (.bl (isRT da && (isRT db && isRT dc))) H4
          rw [← e2]
          exact q H4 (((r1.tr r2).tr r3).tr r4))]
  intro b q h; simpa using FB.pinF b h
  eq_refl
theorem ok_is_members (T : Tx P K mg cs A_) (d__is_members : Df K mg "_is_members" s__is_members ["thing"]) : FnOk P w K mg base CX0 1 d__is_members.f d__is_members.fd ["thing"] (spLook (Bd 1) isUsersD) := by
  refine' @FB.also _ _ ?_ ?_ ?_; rotate_left
  · intro wit__; simp only [↓FB.viaW wit__ (by
      clear wit__
      refine d__is_members.F.ok sc__is_members spLook_len (fun cdv A outer s H vs Q E hr h => ?_)
      obtain ⟨z, v, d, rfl, hz, hv, hs, q⟩ := h
      refine ⟨_, (pss_cons (ps_if (pt_not (pt_val (pe_callB (k_isi (K := K)) (by rfl) T.isinstance (by decide +kernel) (pa_cons (pv 0) (pa_cons (pe_bltn (v := .ty "tuple") (by rfl) T.tuple (by decide +kernel) rfl) pa_nil)))))
        (pss_one (ps_ret pe_bl))
        pss_nil)
        (pss_cons (ps_set (i := 1) sc__is_members.nd rfl (.inl rfl) pe_str)
        (pss_cons (ps_for PassesOwn.never rfl (k_pit (K := K) (pi_tup (pv 0))) (pg_name (i := 2) sc__is_members.nd rfl (Or.inl rfl))
        (pss_cons (ps_if (PW.pt (pw_or (pt_not (pt_val (pe_callB (k_isi (K := K)) (by rfl) T.isinstance (by decide +kernel) (pa_cons (pv 2) (pa_cons (pe_bltn (v := .ty "str") (by rfl) T.str (by decide +kernel) rfl) pa_nil))))) (pw_or (pt_cmpR op_le_str (pv 2) (pv 1) (nomark _)) (pw_or1 (pt_cmpR op_gt (pe_callB (k_len (K := K)) (by rfl) T.len PySem.boot_len (pa_cons (pv 2) pa_nil)) (pe_glob (v := .int 8) (by rfl) T.c_MOST_LETTERS ⟨_, rfl⟩) (nomark _))))))
        (pss_one (ps_ret pe_bl))
        pss_nil)
        (pss_one (ps_set (i := 1) sc__is_members.nd rfl (.inl rfl) (pv 2)))))
        (pss_one (ps_ret (pe_notT (pe_bm PySem.F.plainAttrs_str PySem.F.slot_str_strip PySem.F.type_str_strip mt_stripChars (pe_join pe_str (pv 0)) (pa_cons (pe_glob (v := .str "abcdefghijklmnopqrstuvwxyz") (by rfl) T.c_LETTERS ⟨_, rfl⟩) pa_nil)))))))), ?_⟩
      have no : ∀ {H2 : Hp} {σ' : L2.St} {N : L2.St → Hp → Prop} {N2 N3 : L2.St → Hp → Prop}, isUsersD d = false → z.R H H2 → tRet (tC (.bl false)) { nx := N, ct := N2, bk := N3, rt := Q } σ' H2 := fun e r => s_ret (z := z) r.dr ev_k fun v' H3 r3 f => by
        have e' : v' = .bl false := f H3 .refl
        subst e'
        show Q (.bl false) H3
        rw [← e]
        exact q H3 (r.tr r3)
      refine q_if (z := z) hz (et_not (et_B (ev_isi (ev_var rfl fun H' w => hv.w w) (kit_tup d)))) (fun hb H1 r1 => ?_) (fun hb H1 r1 => ?_)
      · exact no (by cases d <;> first | rfl | cases hb) r1
      obtain ⟨ds, rfl⟩ := tup_of (d := d) (by simpa using hb)
      obtain ⟨a, vs, rfl, nu, ha, hds⟩ := hv.tupAt
      have hlen := hds.len
      obtain ⟨hl, hx⟩ := hs.2 ds rfl
      refine q_set (z := z) (φ := Is (.str "")) r1.dr ev_k fun v1 H2 r2 f2 => ?_
      have e1 := f2 H2 .refl
      subst e1
      have w2 := (r1.tr r2).w
      refine q_forT (z := z) (xs := vs) r2.dr (ev_tupv rfl nu (w2 a _ nu ha)) fun H3 r3 => ?_
      have r13 := (r1.tr r2).tr r3
      have hds3 := hds.w r13.w
      refine ⟨fun i σ' H' => z.R H3 H' ∧ ∃ y o, σ' = [some (.ref a), some (.str y), o] ∧ goU "" ds = goU y (ds.drop i), ⟨r3.dr, "", none, rfl, rfl⟩, fun i σ' H' hP => hP.1.w, fun i x σ' H' hx' hP => ?_, fun σ' H' hP => ?_⟩
      · obtain ⟨r4, y, o, rfl, g⟩ := hP
        obtain ⟨d, hd, dv⟩ := (hds3.w r4.w).at hx'
        have hbd := hx d (List.mem_of_getElem? hd)
        rw [drop_at hd] at g
        have g' : goU "" ds = ((isStrD d && (ltS y (sD d) && decide ((sD d).length ≤ 8))) && goU (sD d) (ds.drop (i + 1))) := g
        have bad : (isStrD d && (ltS y (sD d) && decide ((sD d).length ≤ 8))) = false → isUsersD (.tuple ds) = false := fun e => by
          rw [isU_go, g', e]
          rfl
        by_cases hsd : isStrD d = true
        · obtain ⟨x, rfl⟩ : ∃ x, d = .str x := by cases d <;> first | exact ⟨_, rfl⟩ | cases hsd
          have ev := DU.strAt dv
          subst ev
          have hxl : x.length ≤ 1000 := hbd.sl x rfl
          refine q_if (z := z) r4.dr (et_or (et_not (et_B (ev_isi (ev_var rfl fun H' w => dv.w w) (kit_str _)))) fun _ => et_or (et_test (ev_leS (ev_is rfl) (ev_is rfl))) fun _ => et_test (ev_i0 (g := fun i j => .bl (decide (j < i))) (ev_lenS (ev_is rfl) (by omega)) ev_k)) (fun hb2 H5 r5 => ?_) (fun hb2 H5 r5 => ?_)
          · refine no (bad ?_) ((r13.tr r4).tr r5)
            show (true && (ltS y x && decide (x.length ≤ 8))) = false
            have hb3 : (false || (!ltS y x || decide ((8 : Int) < (x.length : Int)))) = true := hb2
            cases hlt : ltS y x with
            | false => rfl
            | true =>
              rw [hlt] at hb3
              simp only [Bool.not_true, Bool.false_or, decide_eq_true_eq] at hb3
              rw [decide_eq_false (show ¬ x.length ≤ 8 by omega)]
              rfl
          · have hb3 : (false || (!ltS y x || decide ((8 : Int) < (x.length : Int)))) = false := hb2
            simp only [Bool.false_or, Bool.or_eq_false_iff, Bool.not_eq_false', decide_eq_false_iff_not] at hb3
            refine s_set (z := z) (φ := Is (.str x)) r5.dr (ev_is rfl) fun v8 H8 r8 f8 => ?_
            have e8 := f8 H8 .refl
            subst e8
            refine ⟨(r4.tr r5).tr r8, x, _, rfl, ?_⟩
            rw [g']
            show ((true && (ltS y x && decide (x.length ≤ 8))) && goU x (ds.drop (i + 1))) = _
            rw [hb3.1, decide_eq_true (show x.length ≤ 8 by omega)]
            rfl
        · have hsd' : isStrD d = false := by simpa using hsd
          refine q_if (z := z) (b := true) r4.dr (et_to (et_or (b := true) (et_not (et_B (ev_isi (ev_var rfl fun H' w => dv.w w) (kit_str _)))) fun hc => ?_) ?_) (fun hb2 H5 r5 => ?_) (fun hb2 => (by cases hb2))
          · rw [hsd'] at hc; cases hc
          · rw [hsd']; rfl
          · exact no (bad (by rw [hsd']; rfl)) ((r13.tr r4).tr r5)
      · obtain ⟨r4, y, o, rfl, g⟩ := hP
        rw [hlen, List.drop_length] at g
        have g' : goU "" ds = true := g
        have hst := goU_strs ds "" g'
        have evs := strs_at hds fun d hd => (hst d hd).1
        have h8 : ∀ t ∈ ds.map sD, t.length ≤ 8 := fun t ht => by
          obtain ⟨d, hd, rfl⟩ := List.mem_map.mp ht
          exact (hst d hd).2
        have hj := join_len8 h8
        rw [List.length_map] at hj
        have hs8 := sum_le8 _ h8
        rw [List.length_map] at hs8
        have h0 : ("" : Str).length = 0 := rfl
        refine s_ret (z := z) r4.dr (ev_onlyAz (ev_joinT (ys := ds.map sD) ev_k ((ev_tupv rfl nu ((r13.tr r4).w a _ nu ha)).imp fun v H' _ ⟨p, ws, e, n, hp, ew⟩ => ⟨p, ws, e, n, hp, ew.trans evs⟩) (by rw [h0, Nat.mul_zero]; omega)) ev_k (by omega)) fun v' H5 r5 f => ?_
        have e := f H5 .refl
        subst e
        have e2 : isUsersD (.tuple ds) = (Txt.join "" (ds.map sD)).cps.toList.all low := by
          rw [isU_go, g', join_low, List.all_map]
          rfl
        rw [← e2]
        exact q H5 ((r13.tr r4).tr r5))]
  intro b q h; simpa using FB.pinF b h
  eq_refl
theorem ok_is_groups (T : Tx P K mg cs A_) (d_is_groups : Df K mg "is_groups" s_is_groups ["thing"]) (d_is_word : Df K mg "is_word" s_is_word ["thing"]) (d__is_members : Df K mg "_is_members" s__is_members ["thing"]) (G_is_word : FnOk P w K mg base CX0 1 d_is_word.f d_is_word.fd ["thing"] (spLook Sl isWordD))
    (G__is_members : FnOk P w K mg base CX0 1 d__is_members.f d__is_members.fd ["thing"] (spLook (Bd 1) isUsersD)) : FnOk P w K mg base CX0 2 d_is_groups.f d_is_groups.fd ["thing"] (spLook (Bd 3) isGroupsD) := by
  refine' @FB.also _ _ ?_ ?_ ?_; rotate_left
  · intro wit__; simp only [↓FB.viaW wit__ (by
      clear wit__
      refine d_is_groups.F.ok sc_is_groups spLook_len (fun cdv A outer s H vs Q E hr h => ?_)
      obtain ⟨z, v, d, rfl, hz, hv, hs, q⟩ := h
      refine ⟨_, (pss_cons (ps_if (PW.pt (pw_or (pt_not (pt_val (pe_callB (k_isi (K := K)) (by rfl) T.isinstance (by decide +kernel) (pa_cons (pv 0) (pa_cons (pe_bltn (v := .ty "tuple") (by rfl) T.tuple (by decide +kernel) rfl) pa_nil))))) (pw_or1 (pt_cmpR op_gt (pe_callB (k_len (K := K)) (by rfl) T.len PySem.boot_len (pa_cons (pv 0) pa_nil)) (pe_glob (v := .int 8) (by rfl) T.c_MOST_GROUPS ⟨_, rfl⟩) (nomark _)))))
        (pss_one (ps_ret pe_bl))
        pss_nil)
        (pss_cons (ps_set (i := 1) sc_is_groups.nd rfl (.inl rfl) pe_str)
        (pss_cons (ps_for PassesOwn.never rfl (k_pit (K := K) (pi_tup (pv 0))) (pg_name (i := 2) sc_is_groups.nd rfl (Or.inl rfl))
        (pss_cons (ps_if (PW.pt (pw_or (pt_not (pt_val (pe_callB (k_isi (K := K)) (by rfl) T.isinstance (by decide +kernel) (pa_cons (pv 2) (pa_cons (pe_bltn (v := .ty "tuple") (by rfl) T.tuple (by decide +kernel) rfl) pa_nil))))) (pw_or1 (pt_cmpR op_ne (pe_callB (k_len (K := K)) (by rfl) T.len PySem.boot_len (pa_cons (pv 2) pa_nil)) pe_int (nomark _)))))
        (pss_one (ps_ret pe_bl))
        pss_nil)
        (pss_cons (ps_asg (pv 2) (k_pgt (K := K) (n := 2) (pgs_cons (pg_name (i := 3) sc_is_groups.nd rfl (Or.inl rfl)) (pgs_cons (pg_name (i := 4) sc_is_groups.nd rfl (Or.inl rfl)) pgs_nil))))
        (pss_cons (ps_if (PW.pt (pw_or (pt_not (pt_val (pe_call G_is_word (hr.mono (by decide)) (by rfl) d_is_word.g d_is_word.F.kp d_is_word.b .nil pass0 (pa_cons (pv 3) pa_nil)))) (pw_or (pt_cmpR op_le_str (pv 3) (pv 1) (nomark _)) (pw_or1 (pt_not (pt_val (pe_call G__is_members (hr.mono (by decide)) (by rfl) d__is_members.g d__is_members.F.kp d__is_members.b .nil pass0 (pa_cons (pv 4) pa_nil))))))))
        (pss_one (ps_ret pe_bl))
        pss_nil)
        (pss_one (ps_set (i := 1) sc_is_groups.nd rfl (.inl rfl) (pv 3)))))))
        (pss_one (ps_ret pe_bl))))), ?_⟩
      by_cases ht : isTupD d = true
      · obtain ⟨ds, rfl⟩ := tup_of ht
        obtain ⟨a, vs, rfl, nu, ha, hds⟩ := hv.tupAt
        have hlen := hds.len
        obtain ⟨hl, hx⟩ := hs.2 ds rfl
        have no : ∀ {H2 : Hp} {σ' : L2.St} {N : L2.St → Hp → Prop} {N2 N3 : L2.St → Hp → Prop}, isGroupsD (.tuple ds) = false → z.R H H2 → tRet (tC (.bl false)) { nx := N, ct := N2, bk := N3, rt := Q } σ' H2 := fun e r => s_ret (z := z) r.dr ev_k fun v' H3 r3 f => by
          have e' : v' = .bl false := f H3 .refl
          subst e'
          show Q (.bl false) H3
          rw [← e]
          exact q H3 (r.tr r3)
        refine q_if (z := z) hz (et_or (et_not (et_B (ev_isi (ev_var rfl fun H' w => hv.w w) (kit_tup _)))) fun _ => et_test (ev_i0 (g := fun i j => .bl (decide (j < i))) (ev_lenT (ev_tupv rfl nu ha)) ev_k)) (fun hb H1 r1 => ?_) (fun hb H1 r1 => ?_)
        · refine no ?_ r1
          show (decide (ds.length ≤ 8) && _) = false
          rw [decide_eq_false fun h => ?_]
          · rfl
          · simp only [isTupD, Bool.not_true, Bool.false_or, decide_eq_true_eq] at hb
            omega
        have h8 : ds.length ≤ 8 := by
          simp only [isTupD, Bool.not_true, Bool.false_or, decide_eq_false_iff_not] at hb
          omega
        refine q_set (z := z) (φ := Is (.str "")) r1.dr ev_k fun v1 H2 r2 f2 => ?_
        have e1 := f2 H2 .refl
        subst e1
        have w2 := (r1.tr r2).w
        refine q_forT (z := z) (xs := vs) r2.dr (ev_tupv rfl nu (w2 a _ nu ha)) fun H3 r3 => ?_
        have r13 := (r1.tr r2).tr r3
        have hds3 := hds.w r13.w
        refine ⟨fun i σ' H' => z.R H3 H' ∧ ∃ y o o2 o3, σ' = [some (.ref a), some (.str y), o, o2, o3] ∧ goG "" ds = goG y (ds.drop i), ⟨r3.dr, "", none, none, none, rfl, rfl⟩, fun i σ' H' hP => hP.1.w, fun i x σ' H' hx' hP => ?_, fun σ' H' hP => ?_⟩
        · obtain ⟨r4, y, o, o2, o3, rfl, g⟩ := hP
          obtain ⟨d, hd, dv⟩ := (hds3.w r4.w).at hx'
          have hbd := hx d (List.mem_of_getElem? hd)
          rw [drop_at hd] at g
          have g' : goG "" ds = ((isGroupD d && ltS y (nameD d)) && goG (nameD d) (ds.drop (i + 1))) := g
          have bad : (isGroupD d && ltS y (nameD d)) = false → isGroupsD (.tuple ds) = false := fun e => by
            rw [isG_go, g', e, Bool.false_and, Bool.and_false]
          have rr := r13.tr r4
          by_cases hdt : isTupD d = true
          · obtain ⟨es, rfl⟩ := tup_of hdt
            obtain ⟨p, us, rfl, np, hp, hes⟩ := dv.tupAt
            have hl2 := hes.len
            refine q_if (z := z) r4.dr (et_or (et_not (et_B (ev_isi (ev_var rfl fun H' w => dv.w w) (kit_tup _)))) fun _ => et_test (ev_ne (ev_lenT (ev_tupv rfl np hp)) ev_k rfl)) (fun hb H5 r5 => ?_) (fun hb H5 r5 => ?_)
            · refine no (bad ?_) (rr.tr r5)
              have hne : es.length ≠ 2 := fun e => by
                rw [hl2, e] at hb
                cases hb
              show ((decide (es.length = 2) && _) && _) = false
              rw [decide_eq_false hne]
              rfl
            · have h2 : es.length = 2 := by
                simp only [isTupD, Bool.not_true, Bool.false_or, Bool.not_eq_false', decide_eq_true_eq] at hb
                injection hb with hb
                omega
              obtain ⟨da, db, rfl⟩ := two_of h2
              obtain ⟨va, vb, rfl, k1, k2⟩ := DUA.two hes
              have hbd2 := (hbd.2 _ rfl).2
              refine q_un2 (z := z) r5.dr np (r5.w p _ np hp) (ev_is rfl) fun H6 r6 => ?_
              have w6 := (r5.tr r6).w
              by_cases hwd : isWordD da = true
              · obtain ⟨x, rfl⟩ : ∃ x, da = .str x := by cases da <;> first | exact ⟨_, rfl⟩ | cases hwd
                have eva := DU.strAt k1
                subst eva
                refine q_if (z := z) r6.dr (et_or (et_not (et_B (ev_look (ok := Sl) (f := isWordD) (d := .str x) (ev_var rfl fun H' w => (k1.w w6).w w) (hbd2 _ List.mem_cons_self).sl))) fun _ => et_or (et_test (ev_leS (ev_is rfl) (ev_is rfl))) fun _ =>
                  et_not (et_B (ev_look (ok := Bd 1) (f := isUsersD) (d := db) (ev_var rfl fun H' w => (k2.w w6).w w) (hbd2 db (List.mem_cons_of_mem _ List.mem_cons_self))))) (fun hb2 H7 r7 => ?_) (fun hb2 H7 r7 => ?_)
                · refine no (bad ?_) (((rr.tr r5).tr r6).tr r7)
                  rw [hwd] at hb2
                  have hb3 : (false || (!ltS y x || !isUsersD db)) = true := hb2
                  show ((true && (isWordD (.str x) && isUsersD db)) && ltS y x) = false
                  rw [hwd]
                  revert hb3
                  cases ltS y x <;> cases isUsersD db <;> simp
                · refine s_set (z := z) (φ := Is (.str x)) r7.dr (ev_is rfl) fun v8 H8 r8 f8 => ?_
                  have e8 := f8 H8 .refl
                  subst e8
                  refine ⟨(((r4.tr r5).tr r6).tr r7).tr r8, x, _, _, _, rfl, ?_⟩
                  rw [hwd] at hb2
                  have hb3 : (false || (!ltS y x || !isUsersD db)) = false := hb2
                  simp only [Bool.false_or, Bool.or_eq_false_iff, Bool.not_eq_false'] at hb3
                  rw [g']
                  show (((true && (isWordD (.str x) && isUsersD db)) && ltS y x) && goG x (ds.drop (i + 1))) = _
                  rw [hwd, hb3.1, hb3.2]
                  rfl
              · have hwd' : isWordD da = false := by simpa using hwd
                refine q_if (z := z) (b := true) r6.dr (et_to (et_or (b := true) (et_not (et_B (ev_look (ok := Sl) (f := isWordD) (d := da) (ev_var rfl fun H' w => (k1.w w6).w w) (hbd2 _ List.mem_cons_self).sl))) fun hc => ?_) ?_) (fun hb2 H7 r7 => ?_) (fun hb2 => (by cases hb2))
                · rw [hwd'] at hc; cases hc
                · rw [hwd']; rfl
                · refine no (bad ?_) (((rr.tr r5).tr r6).tr r7)
                  show ((true && (isWordD da && isUsersD db)) && _) = false
                  rw [hwd']
                  rfl
          · have hdt' : isTupD d = false := by simpa using hdt
            refine q_if (z := z) (b := true) r4.dr (et_to (et_or (b := true) (et_not (et_B (ev_isi (ev_var rfl fun H' w => dv.w w) (kit_tup _)))) fun hc => ?_) ?_) (fun hb2 H5 r5 => ?_) (fun hb2 => (by cases hb2))
            · rw [hdt'] at hc; cases hc
            · rw [hdt']; rfl
            · refine no (bad ?_) (rr.tr r5)
              have : isGroupD d = false := by cases d <;> first | rfl | cases hdt'
              rw [this]
              rfl
        · obtain ⟨r4, y, o, o2, o3, rfl, g⟩ := hP
          rw [hlen, List.drop_length] at g
          refine s_ret (z := z) r4.dr ev_k fun v' H5 r5 f => ?_
          have e := f H5 .refl
          subst e
          have e2 : isGroupsD (.tuple ds) = true := by
            rw [isG_go, decide_eq_true h8, g]
            rfl
          rw [← e2]
          exact q H5 ((r13.tr r4).tr r5)
      · have ht' : isTupD d = false := by simpa using ht
        refine q_if (z := z) (b := true) hz (et_to (et_or (b := true) (et_not (et_B (ev_isi (ev_var rfl fun H' w => hv.w w) (kit_tup _)))) fun hc => ?_) ?_) (fun hb H1 r1 => ?_) (fun hb => (by cases hb))
        · rw [ht'] at hc; cases hc
        · rw [ht']; rfl
        · refine s_ret r1.dr ev_k fun v' H2 r2 f => ?_
          have e : v' = .bl false := f H2 .refl
          have e2 : isGroupsD d = false := by cases d <;> first | rfl | cases ht'
          subst e
          rw [← e2]
          exact q H2 (r1.tr r2))]
  intro b q h; simpa using FB.pinF b h
  eq_refl
theorem word_Sl {x : Str} (h : isW x = true) : Sl (.str x) := fun y e => by
  injection e with e
  subst e
  have := isW_len h
  omega
theorem bd_str {n : Nat} {x : Str} (h : x.length ≤ 1000) : Bd n (.str x) := by
  refine' @FB.also _ _ ?_ ?_ ?_; rotate_left
  · intro wit__; simp only [↓FB.viaW wit__ (by
      clear wit__
      cases n with
      | zero => exact fun y e => by injection e with e; rw [← e]; exact h
      | succ n => exact ⟨fun y e => by injection e with e; rw [← e]; exact h, fun ds e => by cases e⟩)]
  intro b q h; simpa using FB.pinF b h
  eq_refl
theorem ok__is_of_path (T : Tx P K mg cs A_) (d__is_of_path : Df K mg "_is_of_path" s__is_of_path ["deed"]) (d_is_path : Df K mg "is_path" s_is_path ["thing"]) (G_is_path : FnOk P w K mg base CX0 2 d_is_path.f d_is_path.fd ["thing"] (spLook Tl isPathD)) : FnOk P w K mg base CX0 3 d__is_of_path.f d__is_of_path.fd ["deed"] (spChk fun e => e.rest = []) := by
  refine' @FB.also _ _ ?_ ?_ ?_; rotate_left
  · intro wit__; simp only [↓FB.viaW wit__ (by
      clear wit__
      refine d__is_of_path.F.ok sc__is_of_path (fun vs H Q E ⟨_, _, _, e, _⟩ => by rw [e]; rfl) (fun cdv A outer s H vs Q E hr h => ?_)
      obtain ⟨z, v, e, rfl, hz, hv, he, hg, q⟩ := h
      refine ⟨_, (pss_one (ps_ret (pe_and (pe_cmpR op_eq (pe_callB (k_len (K := K)) (by rfl) T.len PySem.boot_len (pa_cons (pv 0) pa_nil)) pe_int (nomark _)) (pe_one (pe_call G_is_path (hr.mono (by decide)) (by rfl) d_is_path.g d_is_path.F.kp d_is_path.b .nil pass0 (pa_cons (pe_ix (k_ixt (K := K)) (pv 0) pe_int (fun _ _ => rfl)) pa_nil)))))), ?_⟩
      have ed : e.data = .tuple [.str e.word, paS e.path] := by unfold Dee.data; rw [he]
      rw [ed] at hv
      refine s_ret (z := z) (φ := Is (.bl true)) hz (ev_to (ev_and (a := true) (b := true) (ev_to (ev_eq (ev_lenDT (ds := [.str e.word, paS e.path]) (ev_var rfl fun H' w => hv.w w)) ev_k rfl) rfl) fun _ => ev_to (ev_look (ok := Tl) (f := isPathD) (d := paS e.path) (ev_ixDT (j := 1) (ds := [.str e.word, paS e.path]) (ev_var rfl fun H' w => hv.w w) (fun _ _ => ev_k) rfl) (path_Tl hg.path)) (by rw [path_isP hg.path])) rfl) fun v' H2 r2 f => ?_
      have e := f H2 .refl
      subst e
      exact q H2 r2)]
  intro b q h; simpa using FB.pinF b h
  eq_refl
theorem ok__is_rightsD (T : Tx P K mg cs A_) (d__is_rights : Df K mg "_is_rights" s__is_rights ["deed"]) (d_is_path : Df K mg "is_path" s_is_path ["thing"]) (d_is_word : Df K mg "is_word" s_is_word ["thing"]) (d_is_rights : Df K mg "is_rights" s_is_rights ["thing"])
    (G_is_path : FnOk P w K mg base CX0 2 d_is_path.f d_is_path.fd ["thing"] (spLook Tl isPathD)) (G_is_word : FnOk P w K mg base CX0 1 d_is_word.f d_is_word.fd ["thing"] (spLook Sl isWordD)) (G_is_rights : FnOk P w K mg base CX0 2 d_is_rights.f d_is_rights.fd ["thing"] (spLook (Bd 3) isRightsD)) : FnOk P w K mg base CX0 3 d__is_rights.f d__is_rights.fd ["deed"] (spChk fun e => ∃ xs o g r1 r2 r3, e = .rights xs o g r1 r2 r3) := by
  refine' @FB.also _ _ ?_ ?_ ?_; rotate_left
  · intro wit__; simp only [↓FB.viaW wit__ (by
      clear wit__
      refine d__is_rights.F.ok sc__is_rights (fun vs H Q E ⟨_, _, _, e, _⟩ => by rw [e]; rfl) (fun cdv A outer s H vs Q E hr h => ?_)
      obtain ⟨z, v, e, rfl, hz, hv, ⟨xs, o, g, r1, r2, r3, rfl⟩, ⟨hp, ho, hgg, hr1, hr2, hr3⟩, q⟩ := h
      refine ⟨_, (pss_cons (ps_if (PW.pt (pw_or (pt_cmpR op_ne (pe_callB (k_len (K := K)) (by rfl) T.len PySem.boot_len (pa_cons (pv 0) pa_nil)) pe_int (nomark _)) (pw_or1 (pt_not (pt_val (pe_call G_is_path (hr.mono (by decide)) (by rfl) d_is_path.g d_is_path.F.kp d_is_path.b .nil pass0 (pa_cons (pe_ix (k_ixt (K := K)) (pv 0) pe_int (fun _ _ => rfl)) pa_nil)))))))
        (pss_one (ps_ret pe_bl))
        pss_nil)
        (pss_one (ps_ret (pe_and (pe_call G_is_word (hr.mono (by decide)) (by rfl) d_is_word.g d_is_word.F.kp d_is_word.b .nil pass0 (pa_cons (pe_ix (k_ixt (K := K)) (pv 0) pe_int (fun _ _ => rfl)) pa_nil)) (pe_and (pe_call G_is_word (hr.mono (by decide)) (by rfl) d_is_word.g d_is_word.F.kp d_is_word.b .nil pass0 (pa_cons (pe_ix (k_ixt (K := K)) (pv 0) pe_int (fun _ _ => rfl)) pa_nil)) (pe_one (pe_call G_is_rights (hr.mono (by decide)) (by rfl) d_is_rights.g d_is_rights.F.kp d_is_rights.b .nil pass0 (pa_cons (pe_ix (k_ixt (K := K)) (pv 0) pe_int (fun _ _ => rfl)) pa_nil)))))))), ?_⟩
      let ds : List PyData := [.str "rights", paS xs, .str o, .str g, .tuple [.str r1, .str r2, .str r3]]
      have it : ∀ {H1 : Hp} {σ : L2.St} {j : Nat} {d : PyData}, z.R H H1 → σ[0]? = some (some v) → ds[j]? = some d → Ev z (tOp (rIxT K) (tVar 0) (tC (.int (j : Int)))) σ H1 (Dd z d) := fun r es hd => ev_ixDT (ds := ds) (ev_var es fun H' w => (hv.w r.w).w w) (fun _ _ => ev_k) hd
      refine q_if (z := z) (b := false) hz (et_to (et_or (a := false) (b := false) (et_test (ev_to (ev_ne (ev_lenDT (ds := ds) (ev_var rfl fun H' w => hv.w w)) ev_k rfl) rfl)) fun _ => et_to (et_not (et_B (ev_to (ev_look (ok := Tl) (f := isPathD) (d := paS xs) (it (j := 1) hz rfl rfl) (path_Tl hp)) (by rw [path_isP hp])))) rfl) rfl) (fun hb => by cases hb) fun _ H1 r1' => ?_
      have hrr : isRightsD (.tuple [.str r1, .str r2, .str r3]) = true := by
        rcases hr1 with rfl | rfl | rfl | rfl <;> rcases hr2 with rfl | rfl | rfl | rfl <;> rcases hr3 with rfl | rfl | rfl | rfl <;> decide +kernel
      have hbd : Bd 3 (.tuple [.str r1, .str r2, .str r3]) := by
        have hl : ∀ {x : Str}, rwT x → x.length ≤ 1000 := fun h => by
          rcases h with rfl | rfl | rfl | rfl <;> decide
        refine ⟨fun x e => (by cases e), fun ds e => ?_⟩
        injection e with e
        subst e
        refine ⟨(by show 3 ≤ 60; decide), fun d hd => ?_⟩
        simp only [List.mem_cons, List.not_mem_nil, or_false] at hd
        rcases hd with rfl | rfl | rfl
        · exact bd_str (hl hr1)
        · exact bd_str (hl hr2)
        · exact bd_str (hl hr3)
      refine s_ret (z := z) (φ := Is (.bl true)) r1'.dr (ev_to (ev_and (a := true) (b := true) (ev_to (ev_look (ok := Sl) (f := isWordD) (d := .str o) (it (j := 2) r1' rfl rfl) (word_Sl ho)) (by rw [show isWordD (.str o) = true from ho])) fun _ => ev_to (ev_and (a := true) (b := true) (ev_to (ev_look (ok := Sl) (f := isWordD) (d := .str g) (it (j := 3) r1' rfl rfl) (word_Sl hgg)) (by rw [show isWordD (.str g) = true from hgg])) fun _ => ev_to (ev_look (ok := Bd 3) (f := isRightsD) (it (j := 4) r1' rfl rfl) hbd) (by rw [hrr])) rfl) rfl) fun v' H2 r2 f => ?_
      have e := f H2 .refl
      subst e
      exact q H2 (r1'.tr r2))]
  intro b q h; simpa using FB.pinF b h
  eq_refl
theorem ok_is_tree_deed {x : Str} {st : Stmt} {ok : Dee → Prop} (T : Tx P K mg cs A_) (d_is_tree_deed : Df K mg "is_tree_deed" s_is_tree_deed ["thing"]) (d__is_of_path : Df K mg x st ["deed"]) (kd : ∀ e, ok e → KIn K w A_.FORMS e.word (.ref d__is_of_path.f)) (G__is_of_path : FnOk P w K mg base CX0 3 d__is_of_path.f d__is_of_path.fd ["deed"] (spChk ok)) :
    FnOk P w K mg base CX0 4 d_is_tree_deed.f d_is_tree_deed.fd ["thing"] (spChk ok) := by
  refine' @FB.also _ _ ?_ ?_ ?_; rotate_left
  · intro wit__; simp only [↓FB.viaW wit__ (by
      clear wit__
      refine d_is_tree_deed.F.ok sc_is_tree_deed (fun vs H Q E ⟨_, _, _, e, _⟩ => by rw [e]; rfl) (fun cdv A outer s H vs Q E hr h => ?_)
      obtain ⟨z, v, e, rfl, hz, hv, he, hg, q⟩ := h
      refine ⟨_, (pss_cons (ps_if (PW.pt (pw_or (pt_not (pt_val (pe_callB (k_isi (K := K)) (by rfl) T.isinstance (by decide +kernel) (pa_cons (pv 0) (pa_cons (pe_bltn (v := .ty "tuple") (by rfl) T.tuple (by decide +kernel) rfl) pa_nil))))) (pw_or (pt_not (pt_truth (pv 0) (by intro _; rfl))) (pw_or1 (pt_not (pt_val (pe_callB (k_isi (K := K)) (by rfl) T.isinstance (by decide +kernel) (pa_cons (pe_ix (k_ixt (K := K)) (pv 0) pe_int (fun _ _ => rfl)) (pa_cons (pe_bltn (v := .ty "str") (by rfl) T.str (by decide +kernel) rfl) pa_nil)))))))))
        (pss_one (ps_ret pe_bl))
        pss_nil)
        (pss_cons (ps_set (i := 1) sc_is_tree_deed.nd rfl (.inl rfl) (pe_ix (k_ixt (K := K)) (pv 0) pe_int (fun _ _ => rfl)))
        (pss_cons (ps_set (i := 2) sc_is_tree_deed.nd rfl (.inl rfl) (pe_ifExp (pt_cmpR (op_inKD (K := K)) (pv 1) (pe_glob (v := .ref A_.FORMS) (by rfl) T.c_FORMS rfl) (by rfl)) (pe_ix (k_ixKD (K := K)) (pe_glob (v := .ref A_.FORMS) (by rfl) T.c_FORMS rfl) (pv 1) (fun _ _ => rfl)) pe_dead))
        (pss_one (ps_ret (pe_and (pe_cmpR op_notN (pv 2) pe_non (nomark _)) (pe_one (pe_callL (i := 2) G__is_of_path (hr.mono (by decide)) rfl (.inl rfl) d__is_of_path.F.kp d__is_of_path.b .nil pass0 (pa_cons (pv 0) pa_nil))))))))), ?_⟩
      have hd : DU z.U H v (.tuple (.str e.word :: paS e.path :: e.rest)) := hv
      have it0 : ∀ {H1 : Hp} {σ : L2.St}, z.R H H1 → σ[0]? = some (some v) → Ev z (tOp (rIxT K) (tVar 0) (tC (.int 0))) σ H1 (Dd z (.str e.word)) := fun r es => ev_ixDT (j := 0) (ds := .str e.word :: paS e.path :: e.rest) (ev_var es fun H' w => (hd.w r.w).w w) (fun _ _ => ev_k) rfl
      refine q_if (z := z) (b := false) hz (et_to (et_or (a := false) (b := false) (et_not (et_B (ev_isi (d := .tuple (.str e.word :: paS e.path :: e.rest)) (ev_var rfl fun H' w => hd.w w) (kit_tup _)))) fun _ => et_to (et_or (a := false) (b := false) (et_not (et_tupD (ev_var rfl fun H' w => hd.w w))) fun _ => et_not (et_B (ev_isi (d := .str e.word) (it0 hz rfl) (kit_str _)))) rfl) rfl) (fun hb => by cases hb) fun _ H1 r1 => ?_
      refine q_set (z := z) (φ := Is (.str e.word)) r1.dr ((it0 r1 rfl).imp fun v' H' _ f => DU.strAt f) fun v1 H2 r2 f2 => ?_
      have e1 := f2 H2 .refl
      subst e1
      have k := kd e he
      refine q_set (z := z) (φ := Is (.ref d__is_of_path.f)) r2.dr (ev_if (b := true) (et_test (ev_inKD k (ev_is rfl) ev_k)) (fun _ => ev_ixKD k ev_k (ev_is rfl)) fun hb => by cases hb) fun v2 H3 r3 f3 => ?_
      have e2 := f3 H3 .refl
      subst e2
      have r13 := r1.tr (r2.tr r3)
      refine s_ret (z := z) (φ := Is (.bl true)) r3.dr (ev_to (ev_and (a := true) (b := true) (ev_to (x := .bl (!decide (V.ref d__is_of_path.f = .non))) (ev_notN (ev_is rfl)) rfl) fun _ => ev_callL rfl (Φ := fun vs _ => vs = [v]) (ea_is (ev_is rfl) ea_nil) fun vs H4 r4 e4 Q4 q4 => ⟨z, v, e, by rw [e4]; rfl, r4.dr, hv.w (r13.tr r4).w, he, hg, fun H' r' => q4 _ H' r' fun _ _ => rfl⟩) rfl) fun v' H5 r5 f => ?_
      have e := f H5 .refl
      subst e
      exact q H5 (r13.tr r5))]
  intro b q h; simpa using FB.pinF b h
  eq_refl
end
end K05
set_option Elab.async false
set_option linter.all false
set_option maxRecDepth 100000
set_option maxHeartbeats 4000000
namespace K05
open PySem PySem.Spec PyProof.Rows L2 FB RZ
section
variable {P : Program} {w : World} {K : PySem.W.Frag} {mg : Str → Option Value} {base : Heap} {cs : Cs} {A_ : As}
/-- the def that the deed's WORD names is asked -/
theorem ok_shape_deed {x : Str} {st : Stmt} {ok : Dee → Prop} (T : Tx P K mg cs A_) (d_shape_deed : Df K mg "shape_deed" s_shape_deed ["core", "user", "deed"]) (d__make : Df K mg x st ["core", "user", "deed"]) (kd : ∀ e, ok e → KIn K w A_.ACTIONS_shapes e.word (.ref d__make.f)) (G__make : FnOk P w K mg base CX0 5 d__make.f d__make.fd ["core", "user", "deed"] (spDeed K cs.Folder cs.File cs.Core ok)) :
    FnOk P w K mg base CX0 6 d_shape_deed.f d_shape_deed.fd ["core", "user", "deed"] (spDeed K cs.Folder cs.File cs.Core ok) := by
  refine' @FB.also _ _ ?_ ?_ ?_; rotate_left
  · intro wit__; simp only [↓FB.viaW wit__ (by
      clear wit__
      refine d_shape_deed.F.ok sc_shape_deed (fun vs H Q E ⟨_, _, _, _, _, _, _, _, _, e, _⟩ => by rw [e]; rfl) (fun cdv A outer s H vs Q E hr h => ?_)
      obtain ⟨z, c, co, fo, ws, N, user, v, e, rfl, hz, hc, hv, he, hg, hpre, hkl, q⟩ := h
      refine ⟨_, (pss_cons (ps_set (i := 3) sc_shape_deed.nd rfl (.inl rfl) (pe_ix (k_ixKD (K := K)) (pe_glob (v := .ref A_.ACTIONS_shapes) (by rfl) T.c_ACTIONS_shapes rfl) (pe_ix (k_ixt (K := K)) (pv 2) pe_int (fun _ _ => rfl)) (fun _ _ => rfl)))
        (pss_one (ps_ret (pe_callL (i := 3) G__make (hr.mono (by decide)) rfl (.inl rfl) d__make.F.kp d__make.b .nil pass0 (pa_cons (pv 0) (pa_cons (pv 1) (pa_cons (pv 2) pa_nil))))))), ?_⟩
      have hd : DU z.U H v (.tuple (.str e.word :: paS e.path :: e.rest)) := hv
      refine q_set (z := z) (φ := Is (.ref d__make.f)) hz (ev_ixKD (kd e he) ev_k ((ev_ixDT (j := 0) (ds := .str e.word :: paS e.path :: e.rest) (d := .str e.word) (ev_var rfl fun H' w => hd.w w) (fun _ _ => ev_k) rfl).imp fun v' H' _ f => DU.strAt f)) fun v3 H1 r1 f1 => ?_
      have e3 := f1 H1 .refl
      subst e3
      exact ⟨rfl, _, rfl, _, rfl, _, rfl, z, c, co, fo, ws, N, user, v, e, rfl, r1.dr, hc.go r1, hv.w r1.w, he, hg, hpre, hkl, fun z' H' N' d v' s' hc' res k => q z' H' N' d v' (Step.tr hz (Step.of_R hc.su r1) s' fun p h => .inl h) hc' res k⟩)]
  intro b q h; simpa using FB.pinF b h
  eq_refl
theorem ok_act {ok : Dee → Prop} (T : Tx P K mg cs A_) (d_Core_act : Dm K cs.Core "act" "Core.act" s_Core_act ["self", "when", "user", "deed"]) (d_lapse : Df K mg "lapse" s_lapse ["core"]) (d_shape_deed : Df K mg "shape_deed" s_shape_deed ["core", "user", "deed"]) (d_room_deed : Df K mg "room_deed" s_room_deed ["core", "user", "deed"]) (d_telling_deed : Df K mg "telling_deed" s_telling_deed ["core", "user", "deed"])
    (kd : ∀ e, ok e → KIn K w A_.SHAPING e.word (.bl true)) (G_lapse : FnOk P w K mg base CX0 1 d_lapse.f d_lapse.fd ["core"] spNo) (G_room_deed : FnOk P w K mg base CX0 1 d_room_deed.f d_room_deed.fd ["core", "user", "deed"] spNo) (G_telling_deed : FnOk P w K mg base CX0 1 d_telling_deed.f d_telling_deed.fd ["core", "user", "deed"] spNo)
    (G_shape_deed : FnOk P w K mg base CX0 6 d_shape_deed.f d_shape_deed.fd ["core", "user", "deed"] (spDeed K cs.Folder cs.File cs.Core ok)) : FnOk P w K mg base CX0 7 d_Core_act.f d_Core_act.fd ["self", "when", "user", "deed"] (spAct K cs.Folder cs.File cs.Core ok) := by
  refine' @FB.also _ _ ?_ ?_ ?_; rotate_left
  · intro wit__; simp only [↓FB.viaW wit__ (by
      clear wit__
      refine d_Core_act.F.ok sc_Core_act (fun vs H Q E ⟨_, _, _, _, _, _, _, _, _, _, e, _⟩ => by rw [e]; rfl) (fun cdv A outer s H vs Q E hr h => ?_)
      obtain ⟨z, c, co, fo, ws, N, when_, user, v, e, rfl, hz, hc, hv, he, hg, hpre, hkl, q⟩ := h
      refine ⟨_, (pss_cons (ps_fld (pv 0) (pv 1) (by rfl))
        (pss_cons (ps_if (pt_truth (k_fld (K := K) (pv 0) rfl) (by intro _; rfl))
        (pss_one (ps_expr (pe_call G_lapse (hr.mono (by decide)) (by rfl) d_lapse.g d_lapse.F.kp d_lapse.b .nil pass0 (pa_cons (pv 0) pa_nil))))
        pss_nil)
        (pss_cons (ps_set (i := 4) sc_Core_act.nd rfl (.inl rfl) (pe_ix (k_ixt (K := K)) (pv 3) pe_int (fun _ _ => rfl)))
        (pss_cons (ps_if (pt_cmpR (op_inKD (K := K)) (pv 4) (pe_glob (v := .ref A_.SHAPING) (by rfl) T.c_SHAPING rfl) (by rfl))
        (pss_one (ps_ret (pe_call G_shape_deed (hr.mono (by decide)) (by rfl) d_shape_deed.g d_shape_deed.F.kp d_shape_deed.b .nil pass0 (pa_cons (pv 0) (pa_cons (pv 2) (pa_cons (pv 3) pa_nil))))))
        pss_nil)
        (pss_cons (ps_if (pt_cmpR (op_inKD (K := K)) (pv 4) (pe_glob (v := .ref A_.ROOMY) (by rfl) T.c_ROOMY rfl) (by rfl))
        (pss_one (ps_ret (pe_call G_room_deed (hr.mono (by decide)) (by rfl) d_room_deed.g d_room_deed.F.kp d_room_deed.b .nil pass0 (pa_cons (pv 0) (pa_cons (pv 2) (pa_cons (pv 3) pa_nil))))))
        pss_nil)
        (pss_one (ps_ret (pe_call G_telling_deed (hr.mono (by decide)) (by rfl) d_telling_deed.g d_telling_deed.F.kp d_telling_deed.b .nil pass0 (pa_cons (pv 0) (pa_cons (pv 2) (pa_cons (pv 3) pa_nil))))))))))), ?_⟩
      refine q_fldVV (C := cs.Core) rfl rfl hc.ca.hc T.CO.cl (T.CO.no _ (by simp [coF])) (show co.flds.length < 1000 from by show 12 < 1000; decide) ?_
      have ef : putF "clock" (.int when_) co.flds = ({ co with clock := when_ } : Co).flds := rfl
      rw [ef]
      have hc1 := hc.tick when_
      have s1 : Step (ownP c N) z H z (upd H c (.ins cs.Core co.dx ({ co with clock := when_ } : Co).flds)) := Step.upd hz hc.su (.inl rfl) hc.ca.hc hc.ca.nc
      have hv1 := s1.du hv
      have hd : DU z.U (upd H c (.ins cs.Core co.dx ({ co with clock := when_ } : Co).flds)) v (.tuple (.str e.word :: paS e.path :: e.rest)) := hv1
      obtain ⟨n1, _, h1⟩ := hc1.calm co.pr (.inl rfl)
      refine q_if (z := z) (b := false) s1.r (et_dic0 n1 h1 (ev_co T.CO hc1.ca.nc hc1.ca.hc (by simp [coF]) rfl (ev_is rfl))) (fun hb => by cases hb) fun _ H2 r2 => ?_
      refine q_set (z := z) (φ := Is (.str e.word)) r2.dr ((ev_ixDT (j := 0) (ds := .str e.word :: paS e.path :: e.rest) (d := .str e.word) (ev_var rfl fun H' w => (hd.w r2.w).w w) (fun _ _ => ev_k) rfl).imp fun v' H' _ f => DU.strAt f) fun v4 H3 r3 f3 => ?_
      have e4 := f3 H3 .refl
      subst e4
      have r13 := r2.tr r3
      refine q_if (z := z) (b := true) r3.dr (et_test (ev_inKD (kd e he) (ev_is rfl) ev_k)) (fun _ H4 r4 => ?_) fun hb => by cases hb
      have r14 := r13.tr r4
      refine ⟨_, rfl, _, rfl, _, rfl, z, c, { co with clock := when_ }, fo, ws, N, user, v, e, rfl, r4.dr, hc1.go r14, hv1.w r14.w, he, hg, hpre, fun a n hn => Nat.le_trans (Nat.le_of_lt (hkl a n hn)) (by decide), fun z' H' N' d v' s' hc' res k => q z' H' N' d v' ?_ hc' res k⟩
      exact Step.tr hz s1 (Step.tr s1.r (Step.of_R hc.su r14) s' fun p h => .inl h) fun p h => .inl h)]
  intro b q h; simpa using FB.pinF b h
  eq_refl
theorem ok_wanted (T : Tx P K mg cs A_) (d_wanted_parts : Df K mg "wanted_parts" s_wanted_parts ["word", "raw"]) : FnOk P w K mg base CX0 1 d_wanted_parts.f d_wanted_parts.fd ["word", "raw"] spWantedN := by
  refine' @FB.also _ _ ?_ ?_ ?_; rotate_left
  · intro wit__; simp only [↓FB.viaW wit__ (by
      clear wit__
      refine d_wanted_parts.F.ok sc_wanted_parts (fun vs H Q E ⟨_, _, _, e, _⟩ => by rw [e]; rfl) (fun cdv A outer s H vs Q E hr h => ?_)
      obtain ⟨z, word, v, rfl, hz, h1, h2, h3, h4, q⟩ := h
      refine ⟨_, (pss_cons (ps_if (pt_cmpR op_eq (pv 0) pe_str (nomark _))
        (pss_one (ps_set (i := 2) sc_wanted_parts.nd rfl (.inl rfl) (pe_ix (k_ixt (K := K)) (pe_ix (k_ixt (K := K)) (pv 1) pe_int (fun _ _ => rfl)) pe_int (fun _ _ => rfl))))
        (pss_one (ps_if (pt_cmpR op_eq (pv 0) pe_str (nomark _))
        (pss_one (ps_set (i := 2) sc_wanted_parts.nd rfl (.inl rfl) (pe_ix (k_ixt (K := K)) (pe_ix (k_ixt (K := K)) (pe_ix (k_ixt (K := K)) (pv 1) pe_int (fun _ _ => rfl)) pe_int (fun _ _ => rfl)) pe_int (fun _ _ => rfl))))
        (pss_one (ps_if (PW.pt (pw_or (pt_cmpR op_eq (pv 0) pe_str (nomark _)) (pw_or1 (pt_cmpR op_eq (pv 0) pe_str (nomark _)))))
        (pss_one (ps_set (i := 2) sc_wanted_parts.nd rfl (.inl rfl) (pv 1)))
        (pss_one (ps_ret pe_non)))))))
        (pss_one (ps_ret (pe_ifExp (pt_cmpR op_eq (pe_ix (k_ixt (K := K)) (pv 2) pe_int (fun _ _ => rfl)) pe_str (nomark _)) (pe_ix (k_ixt (K := K)) (pv 2) pe_int (fun _ _ => rfl)) pe_non)))), ?_⟩
      have no : ∀ {x : Str} {H1 : Hp} {σ : L2.St}, word ≠ x → σ[0]? = some (some (.str word)) → EvT z (tTest (tOp rEq (tVar 0) (tC (.str x)))) σ H1 (· = false) := fun hx es => et_test (ev_to (ev_eq (ev_is es) ev_k rfl) (by rw [decide_eq_false fun e => hx (by injection e)]))
      refine q_ifE (z := z) (b := false) hz (no h1 rfl) (fun hb => by cases hb) fun _ H1 r1 => ?_
      refine s_if (z := z) (b := false) r1.dr (no h2 rfl) (fun hb => by cases hb) fun _ H2 r2 => ?_
      refine s_if (z := z) (b := false) r2.dr (et_to (et_or (a := false) (b := false) (no h3 rfl) fun _ => no h4 rfl) rfl) (fun hb => by cases hb) fun _ H3 r3 => ?_
      refine s_ret (z := z) (φ := Is .non) r3.dr ev_k fun v' H4 r4 f => ?_
      have e := f H4 .refl
      subst e
      exact q H4 (r1.tr (r2.tr (r3.tr r4))))]
  intro b q h; simpa using FB.pinF b h
  eq_refl
theorem dee_words (e : Dee) (h : e.tells = false) : e.word ≠ "sight" ∧ e.word ≠ "lease" ∧ e.word ≠ "read" ∧ e.word ≠ "old" ∧ e.word ≠ "put" ∧ inV (.str e.word) ((["read", "list", "look"] : List Str).map V.str) = false := by
  refine' @FB.also _ _ ?_ ?_ ?_; rotate_left
  · intro wit__; simp only [↓FB.viaW wit__ (by
      clear wit__
      cases e with
      | make f xs =>
        cases f with
        | true => exact (by decide +kernel : ("folder" : Str) ≠ "sight" ∧ ("folder" : Str) ≠ "lease" ∧ ("folder" : Str) ≠ "read" ∧ ("folder" : Str) ≠ "old" ∧ ("folder" : Str) ≠ "put" ∧ inV (.str "folder") ((["read", "list", "look"] : List Str).map V.str) = false)
        | false => exact (by decide +kernel : ("file" : Str) ≠ "sight" ∧ ("file" : Str) ≠ "lease" ∧ ("file" : Str) ≠ "read" ∧ ("file" : Str) ≠ "old" ∧ ("file" : Str) ≠ "put" ∧ inV (.str "file") ((["read", "list", "look"] : List Str).map V.str) = false)
      | strike xs => exact (by decide +kernel : ("strike" : Str) ≠ "sight" ∧ ("strike" : Str) ≠ "lease" ∧ ("strike" : Str) ≠ "read" ∧ ("strike" : Str) ≠ "old" ∧ ("strike" : Str) ≠ "put" ∧ inV (.str "strike") ((["read", "list", "look"] : List Str).map V.str) = false)
      | rights => exact (by decide +kernel : ("rights" : Str) ≠ "sight" ∧ ("rights" : Str) ≠ "lease" ∧ ("rights" : Str) ≠ "read" ∧ ("rights" : Str) ≠ "old" ∧ ("rights" : Str) ≠ "put" ∧ inV (.str "rights") ((["read", "list", "look"] : List Str).map V.str) = false)
      | link => exact (by decide +kernel : ("link" : Str) ≠ "sight" ∧ ("link" : Str) ≠ "lease" ∧ ("link" : Str) ≠ "read" ∧ ("link" : Str) ≠ "old" ∧ ("link" : Str) ≠ "put" ∧ inV (.str "link") ((["read", "list", "look"] : List Str).map V.str) = false)
      | move => exact (by decide +kernel : ("move" : Str) ≠ "sight" ∧ ("move" : Str) ≠ "lease" ∧ ("move" : Str) ≠ "read" ∧ ("move" : Str) ≠ "old" ∧ ("move" : Str) ≠ "put" ∧ inV (.str "move") ((["read", "list", "look"] : List Str).map V.str) = false)
      | cut => exact (by decide +kernel : ("cut" : Str) ≠ "sight" ∧ ("cut" : Str) ≠ "lease" ∧ ("cut" : Str) ≠ "read" ∧ ("cut" : Str) ≠ "old" ∧ ("cut" : Str) ≠ "put" ∧ inV (.str "cut") ((["read", "list", "look"] : List Str).map V.str) = false)
      | _ => cases h)]
  intro b q h; simpa using FB.pinF b h
  eq_refl
theorem ev_lenDK {z : Zn} {σ : L2.St} {H : Hp} {te : TE} {ds : List PyData} (h : Ev z te σ H (DK K z (.tuple ds))) : Ev z (tCB (fun xs H Q => ∃ y n, xs = [y] ∧ LenV K y H n ∧ Q (.int n) H) (tCons te tNil)) σ H (Is (.int (ds.length : Int))) := by
  refine' @FB.also _ _ ?_ ?_ ?_; rotate_left
  · intro wit__; simp only [↓FB.viaW wit__ (by
      clear wit__
      exact fun H1 e Q q =>
        h H1 e _ fun v H2 e2 f => by
          have dp := (f H2 .refl).at
          cases dp with
          | tup hs ha =>
            exact ⟨_, ds.length, rfl, .inr ⟨_, hs, (dpa_len ha).symm⟩, q _ H2 e2 fun _ _ => rfl⟩)]
  intro b q h; simpa using FB.pinF b h
  eq_refl
theorem ok_gath0 (T : Tx P K mg cs A_) (d_gathered : Df K mg "gathered" s_gathered ["parts", "pieces"]) : FnOk P w K mg base CX0 1 d_gathered.f d_gathered.fd ["parts", "pieces"] (spGath0 K) := by
  refine' @FB.also _ _ ?_ ?_ ?_; rotate_left
  · intro wit__; simp only [↓FB.viaW wit__ (by
      clear wit__
      refine d_gathered.F.ok sc_gathered (fun vs H Q E ⟨_, _, _, e, _⟩ => by rw [e]; rfl) (fun cdv A outer s H vs Q E hr h => ?_)
      obtain ⟨z, v, w', rfl, hz, hd, q⟩ := h
      refine ⟨_, (pss_cons (ps_if (pt_cmpR op_eq (pe_callB (k_len (K := K)) (by rfl) T.len PySem.boot_len (pa_cons (pv 0) pa_nil)) pe_int (nomark _))
        (pss_cons (ps_asg (pe_ix (k_ixt (K := K)) (pv 0) pe_int (fun _ _ => rfl)) (k_pgt (K := K) (n := 3) (pgs_cons (pg_name (i := 2) sc_gathered.nd rfl (Or.inl rfl)) (pgs_cons (pg_name (i := 3) sc_gathered.nd rfl (Or.inl rfl)) (pgs_cons (pg_name (i := 4) sc_gathered.nd rfl (Or.inl rfl)) pgs_nil)))))
        (pss_one (ps_ret (pe_slice (k_slt (K := K)) (pe_dget (lt1 hr.units) (pv 1) (pv 2) (fun _ _ => rfl)) (po_some (pv 3)) (po_some (pe_op op_add (pv 3) (pv 4)))))))
        pss_nil)
        (pss_cons (ps_set (i := 5) sc_gathered.nd rfl (.inl rfl) (pe_lst pa_nil))
        (pss_cons (ps_for PassesOwn.never rfl (k_pit (K := K) (pi_tup (pv 0))) (k_pgt (K := K) (n := 3) (pgs_cons (pg_name (i := 2) sc_gathered.nd rfl (Or.inl rfl)) (pgs_cons (pg_name (i := 3) sc_gathered.nd rfl (Or.inl rfl)) (pgs_cons (pg_name (i := 4) sc_gathered.nd rfl (Or.inl rfl)) pgs_nil))))
        (pss_one (ps_expr (pe_bm PySem.F.plainAttrs_list PySem.F.slot_list_extend PySem.F.type_list_extend mt_extendT (pv 5) (pa_cons (pe_slice (k_slt (K := K)) (pe_dget (lt1 hr.units) (pv 1) (pv 2) (fun _ _ => rfl)) (po_some (pv 3)) (po_some (pe_op op_add (pv 3) (pv 4)))) pa_nil)))))
        (pss_one (ps_ret (pe_callTy (k_tuple (K := K)) (by rfl) T.tuple (by decide +kernel) (pa_cons (pv 5) pa_nil))))))), ?_⟩
      refine q_if (z := z) (b := false) hz (et_test (ev_to (ev_eq (ev_lenDK (ds := []) (ev_var rfl fun H' w => hd.w w)) ev_k rfl) rfl)) (fun hb => by cases hb) fun _ H1 r1 => ?_
      refine q_set (z := z) r1.dr (ev_lst (Φ := fun vs _ => vs = []) ea_nil fun vs H' e => by rw [e]; exact Nat.zero_le _) fun v5 H2 r2 f2 => ?_
      obtain ⟨p, ws, e5, np, hp, ew⟩ := f2 H2 .refl
      subst e5
      subst ew
      have r12 := r1.tr r2
      have dp := (hd.w r12.w).at
      obtain ⟨a, ea, hs⟩ : ∃ a, v = .ref a ∧ SqT K H2 a [] := by
        cases dp with
        | tup hs ha => cases ha; exact ⟨_, rfl, hs⟩
      subst ea
      refine ⟨_, rfl, a, rfl, ⟨[], hs⟩, for_tup (K := K) (a := a) (xs := []) (fun _ σ' H' => σ' = _ ∧ H' = H2) ⟨rfl, rfl⟩ (fun i σ' H' _ q => by rw [q.2]; exact hs) (fun i x σ' H' hx q => by simp at hx) fun σ' H' q' => ?_⟩
      obtain ⟨rfl, rfl⟩ := q'
      refine s_ret (z := z) (φ := DK K z (.tuple [])) r2.dr (ev_tupleK (ds := []) ((ev_var (φ := Lst z fun ws _ => ws = []) rfl fun H' w => ⟨p, [], rfl, np, w p _ np hp, rfl⟩).imp fun v H' _ ⟨p, ws, e, nu, hp, ew⟩ => ⟨p, ws, e, nu, hp, by rw [ew]; exact dka_nil⟩)) fun v' H3 r3 f => q H3 v' (r12.tr r3) (f H3 .refl))]
  intro b q h; simpa using FB.pinF b h
  eq_refl
theorem ok_with_cells (T : Tx P K mg cs A_) (d_Grove_with_cells : Dm K cs.Tree "with_cells" "Grove.with_cells" s_Grove_with_cells ["self", "raw"]) (d_gathered : Df K mg "gathered" s_gathered ["parts", "pieces"]) (G_gathered : FnOk P w K mg base CX0 1 d_gathered.f d_gathered.fd ["parts", "pieces"] (spGath0 K)) : FnOk P w K mg base CX0 2 d_Grove_with_cells.f d_Grove_with_cells.fd ["self", "raw"] (spWithCells K cs.Tree) := by
  refine' @FB.also _ _ ?_ ?_ ?_; rotate_left
  · intro wit__; simp only [↓FB.viaW wit__ (by
      clear wit__
      refine d_Grove_with_cells.F.ok sc_Grove_with_cells (fun vs H Q E ⟨_, _, _, _, _, _, _, e, _⟩ => by rw [e]; rfl) (fun cdv A outer s H vs Q E hr h => ?_)
      obtain ⟨z, t, dt, c, pc, v, d, rfl, hz, ht, hd, hn⟩ := h
      refine ⟨_, (pss_one (ps_ret (pe_ifExp (pt_cmpR op_eq (pe_ix (k_ixt (K := K)) (pv 1) pe_int (fun _ _ => rfl)) pe_str (nomark _)) (pe_tup (pa_cons pe_str (pa_cons (pe_call G_gathered (hr.mono (by decide)) (by rfl) d_gathered.g d_gathered.F.kp d_gathered.b .nil pass0 (pa_cons (pe_ix (k_ixt (K := K)) (pv 1) pe_int (fun _ _ => rfl)) (pa_cons (k_fld (K := K) (pv 0) rfl) pa_nil))) pa_nil))) (pv 1)))), ?_⟩
      rcases hn with ⟨hn, q⟩ | ⟨rfl, q⟩
      · match d, hn with
        | .tuple (.str wd :: ds), hn =>
          have hw : wd ≠ "cells" := hn
          refine s_ret (z := z) (φ := Is v) hz (ev_if (b := false) (et_test (ev_to (ev_eq (ev_ixKS (j := 0) (ds := .str wd :: ds) (ev_var rfl fun H' w => hd.w w) (fun _ _ => ev_k) rfl) ev_k rfl) (by rw [decide_eq_false fun e => hw (by injection e)]))) (fun hb => by cases hb) fun _ => ev_is rfl) fun v' H1 r1 f => ?_
          have e := f H1 .refl
          subst e
          exact q H1 r1
      · refine s_ret (z := z) (φ := DK K z (toldD (.tuple []))) hz (ev_if (b := true) (et_test (ev_to (ev_eq (ev_ixKS (j := 0) (ds := [.str "cells", .tuple []]) (ev_var rfl fun H' w => hd.w w) (fun _ _ => ev_k) rfl) ev_k rfl) rfl)) (fun _ => ?_) fun hb => by cases hb) fun v' H1 r1 f => q H1 v' r1 (f H1 .refl)
        refine ev_tupK (ea_dk (ev_kS ev_k) fun H2 r2 => ea_dk (ev_call (Φ := fun vs H' => ∃ a b, vs = [a, b] ∧ DK K z (.tuple []) a H') ((ea_cons (φ := DK K z (.tuple [])) (ev_ixKD' (j := 1) (ds := [.str "cells", .tuple []]) (ev_var rfl fun H' w => (hd.w r2.w).w w) (fun _ _ => ev_k) rfl) fun _ H3 r3 _ => ea_cons (φ := Is (.ref pc)) (ev_fld (Zn.iN ht.nu) ((ht.go (r2.tr r3).w).at_) T.cl_Tree (T.nT _ (by simp)) rfl (ev_is rfl)) fun _ _ _ _ => ea_nil).imp fun vs H' _ ⟨a, r, e, ha, b, r', e', _, en⟩ => ⟨a, b, by rw [e, e', en], ha⟩) fun vs H4 r4 ⟨a, b, e4, ha⟩ Q4 q4 => ⟨z, a, b, by rw [e4]; rfl, r4.dr, ha, fun H' v' r' k => q4 v' H' r' fun H5 w5 => k.w w5⟩) fun _ _ => ea_dkN) (by show 2 ≤ 100000; decide))]
  intro b q h; simpa using FB.pinF b h
  eq_refl
theorem ok_reply {ok : Dee → Prop} (T : Tx P K mg cs A_) (d_Grove_reply : Dm K cs.Tree "reply" "Grove.reply" s_Grove_reply ["self", "when", "user", "deed"]) (d_Grove_with_cells : Dm K cs.Tree "with_cells" "Grove.with_cells" s_Grove_with_cells ["self", "raw"]) (d_Grove_put : Dm K cs.Tree "_put" "Grove._put" s_Grove_put ["self", "when", "user", "deed"]) (d_Core_act : Dm K cs.Core "act" "Core.act" s_Core_act ["self", "when", "user", "deed"]) (d_told_of_path : Df K mg "told_of_path" s_told_of_path ["core", "user", "deed"]) (d_wanted_parts : Df K mg "wanted_parts" s_wanted_parts ["word", "raw"]) (d_filled : Df K mg "filled" s_filled ["word", "raw", "inner"]) (d_gathered : Df K mg "gathered" s_gathered ["parts", "pieces"])
    (G_Grove_with_cells : FnOk P w K mg base CX0 2 d_Grove_with_cells.f d_Grove_with_cells.fd ["self", "raw"] (spWithCells K cs.Tree)) (G_Grove_put : FnOk P w K mg base CX0 1 d_Grove_put.f d_Grove_put.fd ["self", "when", "user", "deed"] spNo) (G_Core_act : FnOk P w K mg base CX0 7 d_Core_act.f d_Core_act.fd ["self", "when", "user", "deed"] (spAct K cs.Folder cs.File cs.Core ok)) (G_told_of_path : FnOk P w K mg base CX0 4 d_told_of_path.f d_told_of_path.fd ["core", "user", "deed"] (spTold K cs.Folder cs.File cs.Core)) (G_wanted_parts : FnOk P w K mg base CX0 1 d_wanted_parts.f d_wanted_parts.fd ["word", "raw"] spWantedN) (G_filled : FnOk P w K mg base CX0 1 d_filled.f d_filled.fd ["word", "raw", "inner"] spNo) (G_gathered : FnOk P w K mg base CX0 1 d_gathered.f d_gathered.fd ["parts", "pieces"] spNo) :
    FnOk P w K mg base CX0 8 d_Grove_reply.f d_Grove_reply.fd ["self", "when", "user", "deed"] (spReply K cs.Folder cs.File cs.Core cs.Tree ok) := by
  refine' @FB.also _ _ ?_ ?_ ?_; rotate_left
  · intro wit__; simp only [↓FB.viaW wit__ (by
      clear wit__
      refine d_Grove_reply.F.ok sc_Grove_reply (fun vs H Q E ⟨_, _, _, _, _, _, _, _, _, _, _, _, _, e, _⟩ => by rw [e]; rfl) (fun cdv A outer s H vs Q E hr h => ?_)
      obtain ⟨z, t, dt, pc, c, co, fo, ws, N, when_, user, v, e, rfl, hz, ht, hc, hv, he, het, hg, hpre, hkl, q⟩ := h
      refine ⟨_, (pss_cons (ps_set (i := 4) sc_Grove_reply.nd rfl (.inl rfl) (pe_ix (k_ixt (K := K)) (pv 3) pe_int (fun _ _ => rfl)))
        (pss_cons (ps_if (pt_cmpR (k_in (K := K)) (pv 4) (pe_glob (v := .ref A_.GLANCED) (by rfl) T.c_GLANCED rfl) (by rfl))
        (pss_one (ps_ret (pe_meth (pv 0) T.cl_Tree d_Grove_with_cells.at_ G_Grove_with_cells (hr.mono (by decide)) d_Grove_with_cells.b .nil pass0 (pa_cons (pe_call G_told_of_path (hr.mono (by decide)) (by rfl) d_told_of_path.g d_told_of_path.F.kp d_told_of_path.b .nil pass0 (pa_cons (k_fld (K := K) (pv 0) rfl) (pa_cons (pv 2) (pa_cons (pv 3) pa_nil)))) pa_nil))))
        pss_nil)
        (pss_cons (ps_if (pt_cmpR op_eq (pv 4) pe_str (nomark _))
        (pss_one (ps_ret (pe_meth (pv 0) T.cl_Tree d_Grove_put.at_ G_Grove_put (hr.mono (by decide)) d_Grove_put.b .nil pass0 (pa_cons (pv 1) (pa_cons (pv 2) (pa_cons (pv 3) pa_nil))))))
        pss_nil)
        (pss_cons (ps_set (i := 5) sc_Grove_reply.nd rfl (.inl rfl) (pe_meth (k_fld (K := K) (pv 0) rfl) T.cl_Core d_Core_act.at_ G_Core_act (hr.mono (by decide)) d_Core_act.b .nil pass0 (pa_cons (pv 1) (pa_cons (pv 2) (pa_cons (pv 3) pa_nil)))))
        (pss_cons (ps_set (i := 6) sc_Grove_reply.nd rfl (.inl rfl) (pe_call G_wanted_parts (hr.mono (by decide)) (by rfl) d_wanted_parts.g d_wanted_parts.F.kp d_wanted_parts.b .nil pass0 (pa_cons (pv 4) (pa_cons (pv 5) pa_nil))))
        (pss_cons (ps_if (pt_cmpR op_isN (pv 6) pe_non (nomark _))
        (pss_one (ps_ret (pv 5)))
        pss_nil)
        (pss_one (ps_ret (pe_call G_filled (hr.mono (by decide)) (by rfl) d_filled.g d_filled.F.kp d_filled.b .nil pass0 (pa_cons (pv 4) (pa_cons (pv 5) (pa_cons (pe_tup (pa_cons pe_str (pa_cons (pe_call G_gathered (hr.mono (by decide)) (by rfl) d_gathered.g d_gathered.F.kp d_gathered.b .nil pass0 (pa_cons (pv 6) (pa_cons (k_fld (K := K) (pv 0) rfl) pa_nil))) pa_nil))) pa_nil)))))))))))), ?_⟩
      obtain ⟨w1, w2, w3, w4, w5, w6⟩ := dee_words e het
      have hd : DU z.U H v (.tuple (.str e.word :: paS e.path :: e.rest)) := hv
      refine q_set (z := z) (φ := Is (.str e.word)) hz ((ev_ixDT (j := 0) (ds := .str e.word :: paS e.path :: e.rest) (d := .str e.word) (ev_var rfl fun H' w => hd.w w) (fun _ _ => ev_k) rfl).imp fun v' H' _ f => DU.strAt f) fun v4 H1 r1 f1 => ?_
      have e4 := f1 H1 .refl
      subst e4
      refine q_if (z := z) (b := false) r1.dr (et_test (ev_to (ev_in (xs := (["read", "list", "look"] : List Str).map V.str) (ev_is rfl) ev_k (fun H4 _ => .inr (T.q_GLANCED H4)) rfl rfl) (by rw [w6]))) (fun hb => by cases hb) fun _ H2 r2 => ?_
      refine q_if (z := z) (b := false) r2.dr (et_test (ev_to (ev_eq (ev_is rfl) ev_k rfl) (by rw [decide_eq_false fun e => w5 (by injection e)]))) (fun hb => by cases hb) fun _ H3 r3 => ?_
      have r13 := r1.tr (r2.tr r3)
      have ht3 := ht.go r13.w
      have hc3 := hc.go r13
      refine q_meth (z := z) (C := cs.Core) (dx := co.dx) (fs := co.flds) r3.dr (ev_fld (z := z) (Zn.iN ht3.nu) ht3.at_ T.cl_Tree (T.nT _ (by simp)) rfl (ev_is rfl)) hc3.ca.nc hc3.ca.hc rfl fun H4 r4 => ?_
      have r14 := r13.tr r4
      have hc4 := hc.go r14
      refine ⟨_, rfl, _, rfl, _, rfl, z, c, co, fo, ws, N, when_, user, v, e, rfl, r4.dr, hc4, hv.w r14.w, he, hg, hpre, hkl, fun z' H' N' d v' s' hc' res k => ?_⟩
      have s0 : Step (ownP c N) z H z' H' := Step.tr hz (Step.of_R hc.su r14) s' fun p h => .inl h
      refine q_set (z := z') (i := 6) (φ := Is .non) s'.r (ev_call (Φ := fun vs _ => vs = [.str e.word, v']) (ea_is (ev_is rfl) (ea_is (ev_is rfl) ea_nil)) fun vs H5 r5 e5 Q5 q5 => ⟨z', e.word, v', by rw [e5]; rfl, r5.dr, w1, w2, w3, w4, fun H' r' => q5 _ H' r' fun _ _ => rfl⟩) fun v6 H5 r5 f5 => ?_
      have e6 := f5 H5 .refl
      subst e6
      refine q_if (z := z') (b := true) r5.dr (et_test (ev_to (ev_isN (ev_is rfl)) rfl)) (fun _ H6 r6 => ?_) fun hb => by cases hb
      refine s_ret (z := z') (φ := Is v') r6.dr (ev_is rfl) fun v7 H7 r7 f7 => ?_
      have e7 := f7 H7 .refl
      subst e7
      have r57 := r5.tr (r6.tr r7)
      exact q z' H7 N' d _ (Step.tr hz s0 (Step.of_R (S := fun p => ownP c N p) (fun p h => s0.U2 p (hc.su p h)) r57) fun p h => .inl h) (hc'.go r57) res (k.w r57.w))]
  intro b q h; simpa using FB.pinF b h
  eq_refl
theorem ok_do {ok : Dee → Prop} (T : Tx P K mg cs A_) (d_Tree_do : Dm K cs.Tree "do" "Tree.do" s_Tree_do ["self", "tick", "user", "deed"]) (d_Grove_reply : Dm K cs.Tree "reply" "Grove.reply" s_Grove_reply ["self", "when", "user", "deed"]) (d_Grove_with_cells : Dm K cs.Tree "with_cells" "Grove.with_cells" s_Grove_with_cells ["self", "raw"]) (d_told_of_path : Df K mg "told_of_path" s_told_of_path ["core", "user", "deed"]) (d_is_tree_deed : Df K mg "is_tree_deed" s_is_tree_deed ["thing"]) (d_is_word : Df K mg "is_word" s_is_word ["thing"])
    (G_Grove_with_cells : FnOk P w K mg base CX0 2 d_Grove_with_cells.f d_Grove_with_cells.fd ["self", "raw"] (spWithCells K cs.Tree)) (G_Grove_reply : FnOk P w K mg base CX0 8 d_Grove_reply.f d_Grove_reply.fd ["self", "when", "user", "deed"] (spReply K cs.Folder cs.File cs.Core cs.Tree ok)) (G_told_of_path : FnOk P w K mg base CX0 4 d_told_of_path.f d_told_of_path.fd ["core", "user", "deed"] (spTold K cs.Folder cs.File cs.Core)) (G_is_tree_deed : FnOk P w K mg base CX0 4 d_is_tree_deed.f d_is_tree_deed.fd ["thing"] (spChk ok)) (G_is_word : FnOk P w K mg base CX0 1 d_is_word.f d_is_word.fd ["thing"] (spLook Sl isWordD)) :
    FnOk P w K mg base CX0 9 d_Tree_do.f d_Tree_do.fd ["self", "tick", "user", "deed"] (spDo K cs.Folder cs.File cs.Core cs.Tree ok) := by
  refine' @FB.also _ _ ?_ ?_ ?_; rotate_left
  · intro wit__; simp only [↓FB.viaW wit__ (by
      clear wit__
      refine d_Tree_do.F.ok sc_Tree_do (fun vs H Q E ⟨_, _, _, _, _, _, _, _, _, _, _, _, _, e, _⟩ => by rw [e]; rfl) (fun cdv A outer s H vs Q E hr h => ?_)
      obtain ⟨z, t, dt, pc, c, co, fo, ws, N, tick, user, v, e, rfl, hz, ht, hc, hclk, hu, hv, he, hg, hpre, hkl, q⟩ := h
      refine ⟨_, (pss_cons (ps_set (i := 4) sc_Tree_do.nd rfl (.inl rfl) (k_fld (K := K) (pv 0) rfl))
        (pss_cons (ps_if (PW.pt (pw_or (pt_not (pt_val (pe_callB (k_isi (K := K)) (by rfl) T.isinstance (by decide +kernel) (pa_cons (pv 1) (pa_cons (pe_bltn (v := .ty "int") (by rfl) T.int (by decide +kernel) rfl) pa_nil))))) (pw_or (pt_val (pe_callB (k_isi (K := K)) (by rfl) T.isinstance (by decide +kernel) (pa_cons (pv 1) (pa_cons (pe_bltn (v := .ty "bool") (by rfl) T.bool (by decide +kernel) rfl) pa_nil)))) (pw_or1 (pt_cmpR op_lt (pv 1) (k_fld (K := K) (pv 4) rfl) (nomark _))))))
        (pss_one ps_dead)
        pss_nil)
        (pss_cons (ps_if (pt_not (pt_val (pe_call G_is_word (hr.mono (by decide)) (by rfl) d_is_word.g d_is_word.F.kp d_is_word.b .nil pass0 (pa_cons (pv 2) pa_nil))))
        (pss_one ps_dead)
        pss_nil)
        (pss_cons (ps_set (i := 5) sc_Tree_do.nd rfl (.inl rfl) (pe_call G_told_of_path (hr.mono (by decide)) (by rfl) d_told_of_path.g d_told_of_path.F.kp d_told_of_path.b .nil pass0 (pa_cons (pv 4) (pa_cons (pv 2) (pa_cons (pv 3) pa_nil)))))
        (pss_cons (ps_if (pt_cmpR op_notN (pv 5) pe_non (nomark _))
        (pss_cons (ps_fld (pv 4) (pv 1) (by rfl))
        (pss_one (ps_ret (pe_meth (pv 0) T.cl_Tree d_Grove_with_cells.at_ G_Grove_with_cells (hr.mono (by decide)) d_Grove_with_cells.b .nil pass0 (pa_cons (pv 5) pa_nil)))))
        pss_nil)
        (pss_cons (ps_if (pt_not (pt_val (pe_call G_is_tree_deed (hr.mono (by decide)) (by rfl) d_is_tree_deed.g d_is_tree_deed.F.kp d_is_tree_deed.b .nil pass0 (pa_cons (pv 3) pa_nil))))
        (pss_one ps_dead)
        pss_nil)
        (pss_one (ps_ret (pe_meth (pv 0) T.cl_Tree d_Grove_reply.at_ G_Grove_reply (hr.mono (by decide)) d_Grove_reply.b .nil pass0 (pa_cons (pv 1) (pa_cons (pv 2) (pa_cons (pv 3) pa_nil)))))))))))), ?_⟩
      refine q_set (z := z) (φ := Is (.ref c)) hz (ev_fld (Zn.iN ht.nu) ht.at_ T.cl_Tree (T.nT _ (by simp)) rfl (ev_is rfl)) fun v4 H1 r1 f1 => ?_
      have e4 := f1 H1 .refl
      subst e4
      have hc1 := hc.go r1
      refine q_if (z := z) (b := false) r1.dr (et_to (et_or (a := false) (b := false) (et_not (et_B (ev_isi (d := .int tick) (ev_var rfl fun H' w => .int tick) (kit_int (.int tick))))) fun _ => et_or (a := false) (b := false) (et_B (ev_isi (d := .int tick) (ev_var rfl fun H' w => .int tick) (kit_bool (.int tick)))) fun _ => et_test (ev_to (ev_i0 (g := fun i j => .bl (decide (i < j))) (ev_is rfl) (ev_co T.CO hc1.ca.nc hc1.ca.hc (by simp [coF]) (rfl : co.flds.lookup ("clock" : Str) = some (.int co.clock)) (ev_is rfl))) (by rw [decide_eq_false (by omega)]))) rfl) (fun hb => by cases hb) fun _ H2 r2 => ?_
      refine q_if (z := z) (b := false) r2.dr (et_to (et_not (et_B (ev_look (ok := Sl) (f := isWordD) (d := .str user) (ev_var rfl fun H' w => .str user) (word_Sl hu)))) (by rw [show isWordD (.str user) = true from hu]; rfl)) (fun hb => by cases hb) fun _ H3 r3 => ?_
      have r13 := (r1.tr r2).tr r3
      have hc3 := hc.go r13
      cases het : e.tells with
      | false =>
        refine q_set (z := z) (φ := Is .non) r3.dr (ev_call (Φ := fun vs _ => vs = [.ref c, .str user, v]) (ea_is (ev_is rfl) (ea_is (ev_is rfl) (ea_is (ev_is rfl) ea_nil))) fun vs H4 r4 e4 Q0 q0 => ⟨z, c, co, fo, ws, N, user, v, e, by rw [e4]; rfl, r4.dr, (hc3.go r4).ca, hv.w (r13.tr r4).w, hg, hkl, fun _ H' r' => q0 _ H' r' fun _ _ => rfl, fun h => by rw [het] at h; cases h⟩) fun v5 H4 r4 f4 => ?_
        have e5 := f4 H4 .refl
        subst e5
        refine q_if (z := z) (b := false) r4.dr (et_test (ev_to (ev_notN (ev_is rfl)) rfl)) (fun hb => by cases hb) fun _ H5 r5 => ?_
        have r15 := (r13.tr r4).tr r5
        refine q_if (z := z) (b := false) r5.dr (et_to (et_not (et_B (b := true) (ev_call (Φ := fun vs _ => vs = [v]) (ea_is (ev_is rfl) ea_nil) fun vs H6 r6 e6 Q0 q0 => ⟨z, v, e, by rw [e6]; rfl, r6.dr, hv.w (r15.tr r6).w, he, hg, fun H' r' => q0 _ H' r' fun _ _ => rfl⟩))) rfl) (fun hb => by cases hb) fun _ H6 r6 => ?_
        have r16 := r15.tr r6
        have ht6 := ht.go r16.w
        refine ⟨.ref t, rfl, t, dt, _, rfl, ht6.at_, rfl, _, rfl, _, rfl, _, rfl, z, t, dt, pc, c, co, fo, ws, N, tick, user, v, e, rfl, r6.dr, ht6, hc.go r16, hv.w r16.w, he, het, hg, hpre, hkl, fun z' H' N' d v' s' hc' res k => q z' H' N' d v' (Step.tr hz (Step.of_R hc.su r16) s' fun p h => .inl h) hc' res k⟩
      | true =>
        refine q_set (z := z) (φ := fun v' H' => ∃ d, Raw fo co.top user N e d ∧ DK K z d v' H') r3.dr (ev_call (Φ := fun vs _ => vs = [.ref c, .str user, v]) (ea_is (ev_is rfl) (ea_is (ev_is rfl) (ea_is (ev_is rfl) ea_nil))) fun vs H4 r4 e4 Q0 q0 => ⟨z, c, co, fo, ws, N, user, v, e, by rw [e4]; rfl, r4.dr, (hc3.go r4).ca, hv.w (r13.tr r4).w, hg, hkl, (fun h => by rw [het] at h; cases h), fun _ H' v' d r' hR k => q0 v' H' r' fun H2 w2 => ⟨d, hR, k.w w2⟩⟩) fun v5 H4 r4 f4 => ?_
        obtain ⟨d, hR, k4⟩ := f4 H4 .refl
        have hro := raw_ok hR hpre
        have hne : v5 ≠ .non := fun e => by
          subst e
          have dp := k4.at
          rcases hro with ⟨hnc, _⟩ | ⟨rfl, _⟩
          · match d, hnc, dp with
            | .tuple _, _, dp => cases dp
          · cases dp
        refine q_if (z := z) (b := true) r4.dr (et_test (ev_to (ev_notN (ev_is rfl)) (by rw [decide_eq_false hne]; rfl))) (fun _ H5 r5 => ?_) fun hb => by cases hb
        have r15 := (r13.tr r4).tr r5
        have hc5 := hc.go r15
        refine q_fldVV (C := cs.Core) rfl rfl hc5.ca.hc T.CO.cl (T.CO.no _ (by simp [coF])) (show co.flds.length < 1000 from by show 12 < 1000; decide) ?_
        have ef : putF "clock" (.int tick) co.flds = ({ co with clock := tick } : Co).flds := rfl
        rw [ef]
        have hc6 := hc5.tick tick
        have s6 : Step (ownP c N) z H5 z (upd H5 c (.ins cs.Core co.dx ({ co with clock := tick } : Co).flds)) := Step.upd r15.dr hc5.su (.inl rfl) hc5.ca.hc hc5.ca.nc
        have s06 : Step (ownP c N) z H z _ := Step.tr hz (Step.of_R hc.su r15) s6 fun p h => .inl h
        have ht6 := ht.step s06
        have k6 : DK K z d v5 (upd H5 c (.ins cs.Core co.dx ({ co with clock := tick } : Co).flds)) := s6.dk (k4.w r5.w)
        refine ⟨.ref t, rfl, t, dt, _, rfl, ht6.at_, rfl, _, rfl, z, t, dt, c, pc, v5, d, rfl, s6.r, ht6, k6, ?_⟩
        rcases hro with ⟨hnc, hres⟩ | ⟨hd, hres⟩
        · exact .inl ⟨hnc, fun H' r' => q z H' N d v5 (Step.tr hz s06 (Step.of_R hc.su r') fun p h => .inl h) (hc6.go r') hres (k6.w r'.w)⟩
        · exact .inr ⟨hd, fun H' v' r' k => q z H' N _ v' (Step.tr hz s06 (Step.of_R hc.su r') fun p h => .inl h) (hc6.go r') hres k⟩)]
  intro b q h; simpa using FB.pinF b h
  eq_refl
end
end K05
set_option Elab.async false
set_option linter.all false
set_option maxRecDepth 100000
set_option maxHeartbeats 4000000
namespace K05
open PySem PySem.Spec PyProof.Rows L2 FB RZ
section
variable {P : Program} {w : World} {K : PySem.W.Frag} {mg : Str → Option Value} {base : Heap} {cs : Cs} {A_ : As}
theorem ok_Core_init (T : Tx P K mg cs A_) (d_Core : Di K mg cs.Core "Core" s_Core_init ["self", "groups"]) (d_Folder : Di K mg cs.Folder "Folder" s_Folder_init ["self", "owner", "group", "rights"]) (G_Folder : FnOk P w K mg base CX0 1 d_Folder.f d_Folder.fd ["self", "owner", "group", "rights"] (spFInit cs.Folder)) :
    FnOk P w K mg base CX0 3 d_Core.f d_Core.fd ["self", "groups"] (spCInit K cs.Folder cs.File cs.Core) := by
  refine' @FB.also _ _ ?_ ?_ ?_; rotate_left
  · intro wit__; simp only [↓FB.viaW wit__ (by
      clear wit__
      refine d_Core.F.ok sc_Core_init (fun vs H Q E ⟨_, _, _, _, _, e, _⟩ => by rw [e]; rfl) (fun cdv A outer s H vs Q E hr h => ?_)
      obtain ⟨z, x, dx, v, fo, rfl, hz, ux, ix, hx, hv, hfo, q⟩ := h
      refine ⟨_, (pss_cons (ps_fld (pv 0) (pv 1) (by rfl))
        (pss_cons (ps_fld (pv 0) (pe_dc (own := [("group", 2), ("users", 3)]) (g := gTup K 2 (gCons (gName 2) (gCons (gName 3) gNil))) rfl sc_Core_init.nd  (k_pit (K := K) (pi_tup (pv 1))) (blkOk_by (own := [("group", 2), ("users", 3)]) (N := ["self", "groups", "group", "users"]) (sc := defScope s_Core_init) (by decide +kernel)) (fun _ _ _ _ _ => (k_pgt (K := K) (n := 2) (pgs_cons (pg_name (i := 2) sc_Core_init.nd rfl (Or.inl rfl)) (pgs_cons (pg_name (i := 3) sc_Core_init.nd rfl (Or.inl rfl)) pgs_nil)))) (fun _ _ _ _ _ => pts_nil) (fun _ _ _ _ _ => (pv 2)) (fun _ _ _ _ _ => (pv 3))) (by rfl))
        (pss_cons (ps_fld (pv 0) pe_int (by rfl))
        (pss_cons (ps_fld (pv 0) (pe_make d_Folder.mk1 G_Folder (hr.mono (by decide)) (by rfl) d_Folder.g d_Folder.b .nil pass0 (pa_cons (pe_glob (v := .str "root") (by rfl) T.c_ROOT ⟨_, rfl⟩) (pa_cons (pe_glob (v := .str "root") (by rfl) T.c_ROOT ⟨_, rfl⟩) (pa_cons (pe_tup (pa_cons pe_str (pa_cons pe_str (pa_cons pe_str pa_nil)))) pa_nil)))) (by rfl))
        (pss_cons (ps_fld (pv 0) pe_dnewK (by rfl))
        (pss_cons (ps_fld (pv 0) pe_int (by rfl))
        (pss_cons (ps_fld (pv 0) pe_dnewK (by rfl))
        (pss_cons (ps_fld (pv 0) pe_dnewK (by rfl))
        (pss_cons (ps_fld (pv 0) pe_bl (by rfl))
        (pss_cons (ps_fld (pv 0) (pe_lst pa_nil) (by rfl))
        (pss_cons (ps_fld (pv 0) pe_dnewK (by rfl))
        (pss_one (ps_fld (pv 0) pe_dnewK (by rfl)))))))))))))), ?_⟩
      have no : ∀ {f : Str}, f ∈ coF → NoAttr K cs.Core f := fun hf => T.CO.no _ hf
      have A0 : InAt z H cs.Core x dx (fun _ _ => True) z H [] := ⟨Step.of_R (fun p e => e ▸ ux) hz, hx, trivial⟩
      refine q_fldE (z := z) (φ := Is v) hz (ev_is rfl) rfl ix A0.hx T.CO.cl (no (by simp [coF])) (show 0 < 1000 by decide) fun v1 H1 r1 f1 => ?_
      have e1 := f1 H1 .refl
      subst e1
      have A1 := A0.put cl_true hz ix r1 "groups" v1
      refine q_fldE (z := z) (a := x) (fs := putF "groups" v1 []) (φ := fun q H' => ∃ D ws, q = .ref D ∧ ¬ z.U D ∧ H' D = some (.dK (kvM fo ws)) ∧ DUA z.U H' ws (fo.map usG)) A1.s.r (ev_dcM hfo.1 hfo.2 (A1.s.du hv) (ev_is rfl) ⟨by simp [wipe, L2.start], by simp [wipe, L2.start]⟩ (by decide) (fun a b => rfl)) rfl ix A1.hx T.CO.cl (no (by simp [coF])) (show 1 < 1000 by decide) fun v2 H2 r2 f2 => ?_
      obtain ⟨mem, ws, e2, um, hm, dm⟩ := f2 H2 .refl
      subst e2
      have A2a := (A1.go cl_true hz ix r2).add (Ψ := fun z H => ObjN mem (.dK (kvM fo ws)) z H ∧ DUA z.U H ws (fo.map usG)) ⟨⟨um, hm⟩, dm⟩
      have c2 : Clo x fun z H => True ∧ (ObjN mem (.dK (kvM fo ws)) z H ∧ DUA z.U H ws (fo.map usG)) := cl_and cl_true (cl_and cl_objN cl_dua)
      have A2 := A2a.put c2 hz ix r2.dr "members" (.ref mem)
      refine q_fldE (z := z) (a := x) (fs := putF "members" (.ref mem) (putF "groups" v1 [])) (φ := Is (.int 0)) A2.s.r ev_k rfl ix A2.hx T.CO.cl (no (by simp [coF])) (show 2 < 1000 by decide) fun v3 H3 r3 f3 => ?_
      have e3 := f3 H3 .refl
      subst e3
      have A3 := A2.put c2 hz ix r3 "clock" (.int 0)
      have args : ∀ Hc : Hp, EvA z (tCons (tC (.str "root")) (tCons (tC (.str "root")) (tCons (tTup (tCons (tC (.str "rw")) (tCons (tC (.str "rw")) (tCons (tC (.str "rw")) tNil)))) tNil))) (L2.start ["self", "groups", "group", "users"] [.ref x, v1]) Hc (fun vs H' => ∃ rt, vs = [.str "root", .str "root", rt] ∧ ∃ p, rt = .ref p ∧ ¬ z.U p ∧ H' p = some (.tup [.str "rw", .str "rw", .str "rw"])) := fun Hc =>
        (ea_cons (φ := Is (.str "root")) ev_k fun _ H r _ => ea_cons (φ := Is (.str "root")) ev_k fun _ H r _ => ea_cons (ev_tup (Φ := fun vs _ => vs = [.str "rw", .str "rw", .str "rw"]) (ea_is ev_k (ea_is ev_k (ea_is ev_k ea_nil))) fun vs H' e => by rw [e]; show 3 ≤ 100000; decide) fun _ H r _ => ea_nil).imp fun vs H' _ ⟨a, r, e, ea, b, r', e', eb, rt, r'', e'', ⟨p, ws, ep, np, hp, ew⟩, en⟩ => ⟨rt, by
          rw [e, e', e'', en, show a = .str "root" from ea, show b = .str "root" from eb], p, ep, np, by rw [hp, ew]⟩
      refine q_fldMake (args _ _ A3.s.r _ fun vs H4 r4 g4 => ?_)
      obtain ⟨rt, e4, p4, ep4, np4, hp4⟩ := g4 H4 .refl
      subst e4
      subst ep4
      intro b db hb hdb hne
      refine ⟨b, db, "root", "root", .ref p4, rfl, upd_same, fun d H5 hd hbx hdd kept => ⟨rfl, ?_⟩⟩
      have bd : b ≠ d := fun e => by
        rw [← e, upd_same] at hd
        cases hd
      have hd4 : H4 d = none := by
        rw [upd_ne (Ne.symm bd)] at hd
        by_cases e : d = db
        · rw [e, upd_same] at hd; cases hd
        · rw [upd_ne e] at hd; exact hd
      have kept4 : ∀ p o, H4 p = some o → H5 p = some o := fun p o e => by
        have pb : p ≠ b := fun e2 => by rw [e2, hb] at e; cases e
        refine kept p o ?_ pb
        rw [upd_ne pb, upd_ne (fun e2 => by rw [e2, hdb] at e; cases e)]
        exact e
      have A4 := (A3.go c2 hz ix r4).add (Ψ := ObjN p4 (.tup [.str "rw", .str "rw", .str "rw"])) ⟨np4, hp4⟩
      have c4 := cl_and c2 (cl_objN (x := x) (p := p4) (o := .tup [.str "rw", .str "rw", .str "rw"]))
      have s5 : Step (fun p => p = x) z H4 (z.gr fun p => p = b ∨ p = d) H5 := Step.grow (fun p e => e ▸ ux) r4.dr kept4 fun p h => by
        rcases h with rfl | rfl
        · exact ⟨hb, by rw [hbx]; simp⟩
        · exact ⟨hd4, by rw [hdd]; simp⟩
      have A5a := A4.to c4 hz s5 (kept4 _ _ A4.hx)
      generalize ez : (z.gr fun p => p = b ∨ p = d) = z1 at s5 A5a
      have ub : z1.U b := by rw [← ez]; exact .inr (.inl rfl)
      have ud : z1.U d := by rw [← ez]; exact .inr (.inr rfl)
      have ib : z1.I b = none := by rw [s5.I]; exact r4.dr.ni hb
      have id_ : z1.I d = none := by rw [s5.I]; exact r4.dr.ni hd4
      have bx : b ≠ x := fun e => by rw [e, A4.hx] at hb; cases hb
      have dx_ : d ≠ x := fun e => by rw [e, A4.hx] at hd4; cases hd4
      let nn : Nd := { dx := db, ow := "root", gr := "root", rt := .ref p4, op := true, nm := some d, lim := .non, parts := .non, size := 0, prom := 0, links := 1, kids := [], r1 := "rw", r2 := "rw", r3 := "rw", ps := [] }
      have A5 := A5a.add (Ψ := fun z H => (Obj x b (.ins cs.Folder db nn.flds) z H ∧ Obj x d (.dK []) z H) ∧ (z.U b ∧ z.U d)) ⟨⟨⟨ib, bx, hbx⟩, ⟨id_, dx_, hdd⟩⟩, ub, ud⟩
      have c5 := cl_and c4 (cl_and (cl_and (cl_obj (x := x) (p := b) (o := .ins cs.Folder db nn.flds)) (cl_obj (x := x) (p := d) (o := .dK []))) (cl_and (cl_u (x := x) (p := b)) (cl_u (x := x) (p := d))))
      refine ⟨.ref x, rfl, x, cs.Core, dx, _, rfl, A5.hx, T.CO.cl, no (by simp [coF]), (show 3 < 1000 by decide), ?_⟩
      dsimp only
      have A6 := A5.put c5 hz ix A5.s.r "top" (.ref b)
      have ix1 : z1.I x = none := A5.ix ix
      refine q_fldE (z := z1) (a := x) (C := cs.Core) (dx := dx) A6.s.r ev_dnew rfl ix1 A6.hx T.CO.cl (no (by simp [coF])) (show 4 < 1000 by decide) fun v7 H7 r7 f7 => ?_
      obtain ⟨pr, e7, u7, h7⟩ := f7 H7 .refl
      subst e7
      have c7 := cl_and c5 (cl_objN (x := x) (p := pr) (o := .dK []))
      have A7 := ((A6.go c5 hz ix r7).add (Ψ := ObjN pr (.dK [])) ⟨u7, h7⟩).put c7 hz ix r7.dr "promises" (.ref pr)
      refine q_fldE (z := z1) (a := x) (C := cs.Core) (dx := dx) (φ := Is (.int 0)) A7.s.r ev_k rfl ix1 A7.hx T.CO.cl (no (by simp [coF])) (show 5 < 1000 by decide) fun v8 H8 r8 f8 => ?_
      have e8 := f8 H8 .refl
      subst e8
      have A8 := A7.put c7 hz ix r8 "made" (.int 0)
      refine q_fldE (z := z1) (a := x) (C := cs.Core) (dx := dx) A8.s.r ev_dnew rfl ix1 A8.hx T.CO.cl (no (by simp [coF])) (show 6 < 1000 by decide) fun v9 H9 r9 f9 => ?_
      obtain ⟨li, e9, u9, h9⟩ := f9 H9 .refl
      subst e9
      have c9 := cl_and c7 (cl_objN (x := x) (p := li) (o := .dK []))
      have A9 := ((A8.go c7 hz ix r9).add (Ψ := ObjN li (.dK [])) ⟨u9, h9⟩).put c9 hz ix r9.dr "limited" (.ref li)
      refine q_fldE (z := z1) (a := x) (C := cs.Core) (dx := dx) A9.s.r ev_dnew rfl ix1 A9.hx T.CO.cl (no (by simp [coF])) (show 7 < 1000 by decide) fun v10 H10 r10 f10 => ?_
      obtain ⟨sh, e10, u10, h10⟩ := f10 H10 .refl
      subst e10
      have c10 := cl_and c9 (cl_objN (x := x) (p := sh) (o := .dK []))
      have A10 := ((A9.go c9 hz ix r10).add (Ψ := ObjN sh (.dK [])) ⟨u10, h10⟩).put c10 hz ix r10.dr "shares" (.ref sh)
      refine q_fldE (z := z1) (a := x) (C := cs.Core) (dx := dx) (φ := Is (.bl false)) A10.s.r ev_k rfl ix1 A10.hx T.CO.cl (no (by simp [coF])) (show 8 < 1000 by decide) fun v11 H11 r11 f11 => ?_
      have e11 := f11 H11 .refl
      subst e11
      have A11 := A10.put c10 hz ix r11 "is_watched" (.bl false)
      refine q_fldE (z := z1) (a := x) (C := cs.Core) (dx := dx) A11.s.r (ev_lst (Φ := fun vs _ => vs = []) ea_nil fun vs H' e => by rw [e]; exact Nat.zero_le _) rfl ix1 A11.hx T.CO.cl (no (by simp [coF])) (show 9 < 1000 by decide) fun v12 H12 r12 f12 => ?_
      obtain ⟨st, _, e12, _⟩ := f12 H12 .refl
      subst e12
      have A12 := A11.put c10 hz ix r12 "strains" (.ref st)
      refine q_fldE (z := z1) (a := x) (C := cs.Core) (dx := dx) A12.s.r ev_dnew rfl ix1 A12.hx T.CO.cl (no (by simp [coF])) (show 10 < 1000 by decide) fun v13 H13 r13 f13 => ?_
      obtain ⟨sn, e13, _, _⟩ := f13 H13 .refl
      subst e13
      have A13 := A12.put c10 hz ix r13 "snaps" (.ref sn)
      refine s_fldE (z := z1) (a := x) (C := cs.Core) (dx := dx) A13.s.r ev_dnew rfl ix1 A13.hx T.CO.cl (no (by simp [coF])) (show 11 < 1000 by decide) fun v14 H14 r14 f14 => ?_
      obtain ⟨sd, e14, _, _⟩ := f14 H14 .refl
      subst e14
      have A14 := A13.put c10 hz ix r14 "snapped" (.ref sd)
      let co : Co := { dx := dx, gv := v1, mem := mem, clock := 0, top := b, pr := pr, made := 0, li := li, sh := sh, wt := false, st := st, sn := sn, sd := sd }
      obtain ⟨⟨⟨⟨⟨⟨_, k1, k2⟩, k3⟩, ⟨k4, k5⟩, k6, k7⟩, k8⟩, k9⟩, k10⟩ := A14.φ
      have N0 : ∀ {a n}, (if a = b then some nn else none) = some n → a = b ∧ n = nn := fun {a n} e => by
        by_cases ea : a = b
        · rw [if_pos ea] at e
          exact ⟨ea, (Option.some.inj e).symm⟩
        · rw [if_neg ea] at e; cases e
      refine q z1 _ co ws b nn A14.s ⟨⟨A14.ix ix, A14.hx, Zn.iN k1.1, ⟨k1.2, k2⟩, ⟨fun a n e => ?_, fun a n d2 e ed => ?_, fun a n y b2 e hb2 => ?_, fun a n e => ?_, fun a n e en => ?_⟩, ⟨nn, if_pos rfl⟩⟩, A14.ux, fun a n e => ?_, fun a n d2 e ed => ?_, fun a1 a2 n m d2 e1 e2 _ _ => ?_, k1.1, fun d2 e => ?_, T.neF, T.neL⟩ rfl rfl ⟨rfl, rfl, rfl, rfl, rfl, rfl, rfl, rfl⟩ fun p h => ?_
      · obtain ⟨rfl, rfl⟩ := N0 e
        exact ⟨k4.1, k4.2.2, p4, rfl, .inl ⟨k3.1, k3.2⟩⟩
      · obtain ⟨rfl, rfl⟩ := N0 e
        cases ed
        exact ⟨k5.1, k5.2.2⟩
      · obtain ⟨rfl, rfl⟩ := N0 e
        cases hb2
      · obtain ⟨rfl, rfl⟩ := N0 e
        exact (show true = (inC 114 "rw" && (inC 114 "rw" && inC 114 "rw")) by decide +kernel)
      · obtain ⟨rfl, rfl⟩ := N0 e
        cases en
      · obtain ⟨rfl, rfl⟩ := N0 e
        exact k6
      · obtain ⟨rfl, rfl⟩ := N0 e
        cases ed
        exact k7
      · rw [(N0 e1).1, (N0 e2).1]
      · rcases e with rfl | rfl | rfl
        · exact ⟨Zn.iN k8.1, k8.1, k8.2⟩
        · exact ⟨Zn.iN k9.1, k9.1, k9.2⟩
        · exact ⟨Zn.iN k10.1, k10.1, k10.2⟩
      · have back : ∀ {p : Addr}, H4 p = none → H p = none := fun {p} h => by
          cases e : H p with
          | none => rfl
          | some o =>
            obtain ⟨o', e'⟩ := A4.s.live hz e
            rw [h] at e'
            cases e'
        rcases h with rfl | ⟨n, e⟩ | ⟨a, n, e, ed⟩
        · exact .inl rfl
        · obtain ⟨rfl, rfl⟩ := N0 e
          exact .inr (back hb)
        · obtain ⟨rfl, rfl⟩ := N0 e
          cases ed
          exact .inr (back hd4))]
  intro b q h; simpa using FB.pinF b h
  eq_refl
end
end K05
set_option Elab.async false
set_option linter.all false
set_option maxRecDepth 100000
set_option maxHeartbeats 4000000
namespace K05
open PySem PySem.Spec PyProof.Rows L2 FB RZ
section
variable {P : Program} {w : World} {K : PySem.W.Frag} {mg : Str → Option Value} {base : Heap} {cs : Cs} {A_ : As}
theorem ok_Grove_init (T : Tx P K mg cs A_) (d_Grove_init : Db K mg cs.Grove "Grove" "__init__" "Grove.__init__" s_Grove_init ["self", "groups"]) (d_Core : Di K mg cs.Core "Core" s_Core_init ["self", "groups"]) (G_Core : FnOk P w K mg base CX0 3 d_Core.f d_Core.fd ["self", "groups"] (spCInit K cs.Folder cs.File cs.Core)) :
    FnOk P w K mg base CX0 5 d_Grove_init.f d_Grove_init.fd ["self", "groups"] (spTInit K cs.Folder cs.File cs.Core cs.Tree fun _ => True) := by
  refine' @FB.also _ _ ?_ ?_ ?_; rotate_left
  · intro wit__; simp only [↓FB.viaW wit__ (by
      clear wit__
      refine d_Grove_init.F.ok sc_Grove_init (fun vs H Q E ⟨_, _, _, _, _, e, _⟩ => by rw [e]; rfl) (fun cdv A outer s H vs Q E hr h => ?_)
      obtain ⟨z, t, dt, v, fo, rfl, hz, ut, it, ht, hv, hfo, _, q⟩ := h
      refine ⟨_, (pss_cons (ps_fld (pv 0) (pe_make d_Core.mk1 G_Core (hr.mono (by decide)) (by rfl) d_Core.g d_Core.b .nil pass0 (pa_cons (pv 1) pa_nil)) (by rfl))
        (pss_one (ps_fld (pv 0) pe_dnewK (by rfl)))), ?_⟩
      have A0 : InAt z H cs.Tree t dt (fun _ _ => True) z H [] := ⟨Step.of_R (fun p e => e ▸ ut) hz, ht, trivial⟩
      refine q_fldMake ((ea_is (ev_is rfl) ea_nil : EvA z (tCons (tVar 1) tNil) (L2.start ["self", "groups"] [.ref t, v]) H (fun vs _ => vs = [v])) H hz _ fun vs H1 r1 g1 => ?_)
      have e1 := g1 H1 .refl
      subst e1
      intro x dx hx hdx hne
      have A1 := A0.go cl_true hz it r1
      let H2 := upd (upd H1 dx (.own x)) x (.ins cs.Core dx [])
      have k2 : ∀ p o, H1 p = some o → H2 p = some o := fun p o e => by
        show upd (upd H1 dx (.own x)) x (.ins cs.Core dx []) p = some o
        rw [upd_ne (fun e2 => by rw [e2, hx] at e; cases e), upd_ne (fun e2 => by rw [e2, hdx] at e; cases e)]
        exact e
      have s2 : Step (fun p => p = t) z H1 (z.gr fun p => p = x) H2 := Step.grow (fun p e => e ▸ ut) r1.dr k2 fun p h => by
        subst h
        exact ⟨hx, by show upd _ p _ p ≠ none; rw [upd_same]; simp⟩
      have tx : t ≠ x := fun e => by rw [← e, A1.hx] at hx; cases hx
      have ixz : (z.gr fun p => p = x).I x = none := r1.dr.ni hx
      refine ⟨z.gr fun p => p = x, x, dx, v, fo, rfl, s2.r, .inr rfl, ixz, upd_same, s2.du (hv.w r1.w), hfo, fun z' H' co ws b n s3 hc h0 htop hn hown => ⟨rfl, ?_⟩⟩
      have s13 : Step (fun p => p = t) z H1 z' H' := s2.tr r1.dr s3 fun p h => by
        subst h
        exact .inr hx
      have nt : z.I t = none := it
      have hxt : H' t = some (.ins cs.Tree dt []) := s3.kp t _ nt tx (k2 t _ A1.hx)
      have A3 := A1.to cl_true hz s13 hxt
      have own1 : ∀ p, ownP x (fun a => if a = b then some n else none) p → H1 p = none := fun p h => by
        rcases hown p h with rfl | h2
        · exact hx
        · cases e : H1 p with
          | none => rfl
          | some o =>
            have := k2 p o e
            rw [show H2 p = none from h2] at this
            cases this
      have ownt : ∀ p, ownP x (fun a => if a = b then some n else none) p → p ≠ t := fun p h e => by
        have := own1 p h
        rw [e, A1.hx] at this
        cases this
      refine ⟨.ref t, rfl, t, cs.Tree, dt, _, rfl, A3.hx, T.cl_Tree, T.nT _ (by simp), (show 0 < 1000 by decide), ?_⟩
      dsimp only
      have s4 : Step (fun p => p = t) z' H' z' (upd H' t (.ins cs.Tree dt (putF "core" (.ref x) []))) := Step.upd A3.s.r (fun p e => e ▸ A3.ux) rfl A3.hx (A3.ix it)
      have A4 : InAt z H cs.Tree t dt (fun _ _ => True) z' (upd H' t (.ins cs.Tree dt (putF "core" (.ref x) []))) (putF "core" (.ref x) []) := ⟨A3.s.tr hz s4 fun p h => .inl h, upd_same, trivial⟩
      have hc4 := hc.frame s4 fun p h e => ownt p h e
      refine s_fldE (z := z') (a := t) (C := cs.Tree) (dx := dt) A4.s.r ev_dnew rfl (A3.ix it) A4.hx T.cl_Tree (T.nT _ (by simp)) (show 1 < 1000 by decide) fun v5 H5 r5 f5 => ?_
      obtain ⟨pc, e5, u5, h5⟩ := f5 H5 .refl
      subst e5
      have s5 : Step (fun p => p = t) z' H5 z' (upd H5 t (.ins cs.Tree dt (putF "pieces" (.ref pc) (putF "core" (.ref x) [])))) := Step.upd r5.dr (fun p e => e ▸ A3.ux) rfl (r5.kp t _ (A3.ix it) A4.hx) (A3.ix it)
      have A5 := A4.put cl_true hz it r5 "pieces" (.ref pc)
      refine q z' _ x pc co ws b n A5.s upd_same u5 (s5.w pc _ u5 h5) ((hc4.go r5).frame s5 fun p h e => ownt p h e) h0 htop hn fun p h => ?_
      cases e : H p with
      | none => rfl
      | some o =>
        obtain ⟨o', e'⟩ := A1.s.live hz e
        rw [own1 p h] at e'
        cases e')]
  intro b q h; simpa using FB.pinF b h
  eq_refl
theorem ok_Tree_init (T : Tx P K mg cs A_) {dvs : List V} (d_Tree : Did K mg cs.Tree "Tree" s_Tree_init dvs) (d_Grove_init : Db K mg cs.Grove "Grove" "__init__" "Grove.__init__" s_Grove_init ["self", "groups"]) (d_is_groups : Df K mg "is_groups" s_is_groups ["thing"]) (G_is_groups : FnOk P w K mg base CX0 2 d_is_groups.f d_is_groups.fd ["thing"] (spLook (Bd 3) isGroupsD))
    (G_Grove_init : FnOk P w K mg base CX0 5 d_Grove_init.f d_Grove_init.fd ["self", "groups"] (spTInit K cs.Folder cs.File cs.Core cs.Tree fun _ => True)) :
    FnOk P w K mg base CX0 6 d_Tree.f d_Tree.fd ["self", "groups"] (spTInit K cs.Folder cs.File cs.Core cs.Tree GroupsOk) := by
  refine' @FB.also _ _ ?_ ?_ ?_; rotate_left
  · intro wit__; simp only [↓FB.viaW wit__ (by
      clear wit__
      refine d_Tree.F.ok sc_Tree_init (fun vs H Q E ⟨_, _, _, _, _, e, _⟩ => by rw [e]; rfl) (fun cdv A outer s H vs Q E hr h => ?_)
      obtain ⟨z, t, dt, v, fo, rfl, hz, ut, it, ht, hv, hfo, ⟨hg, hb⟩, q⟩ := h
      refine ⟨_, (pss_cons (ps_if (pt_not (pt_val (pe_call G_is_groups (hr.mono (by decide)) (by rfl) d_is_groups.g d_is_groups.F.kp d_is_groups.b .nil pass0 (pa_cons (pv 1) pa_nil))))
        (pss_one ps_dead)
        pss_nil)
        (pss_one (ps_expr (pe_base (by rfl) d_Grove_init.g d_Grove_init.rd d_Grove_init.at_ d_Grove_init.kp G_Grove_init (hr.mono (by decide)) d_Grove_init.b .nil pass0 (pa_cons (pv 0) (pa_cons (pv 1) pa_nil)))))), ?_⟩
      refine q_if (z := z) (b := false) hz (et_to (et_not (et_B (ev_look (ok := Bd 3) (f := isGroupsD) (d := grpD fo) (ev_var rfl fun H' w => hv.w w) hb))) (by rw [hg]; rfl)) (fun hb => by cases hb) fun _ H1 r1 => ?_
      refine ⟨_, rfl, _, rfl, z, t, dt, v, fo, rfl, r1.dr, ut, it, r1.kp t _ it ht, hv.w r1.w, hfo, trivial, fun z' H' c pc co ws b n s1 h1 h2 h3 h4 h5 h6 h7 h8 => q z' H' c pc co ws b n ((Step.of_R (fun p e => e ▸ ut) r1).tr hz s1 fun p h => .inl h) h1 h2 h3 h4 h5 h6 h7 fun p h => r1.back (h8 p h)⟩)]
  intro b q h; simpa using FB.pinF b h
  eq_refl
end
end K05
set_option Elab.async false
set_option linter.all false
set_option maxRecDepth 100000
set_option maxHeartbeats 4000000
namespace K05
open PySem PySem.Spec PyProof.Rows L2 FB RZ
section
variable {P : Program} {w : World} {K : PySem.W.Frag} {mg : Str → Option Value} {base : Heap} {cs : Cs} {A_ : As}
theorem ok_first (T : Tx P K mg cs A_) (d__first_cells : Df K mg "_first_cells" s__first_cells ["parts", "many"]) : FnOk P w K mg base CX0 1 d__first_cells.f d__first_cells.fd ["parts", "many"] spFirst := by
  refine' @FB.also _ _ ?_ ?_ ?_; rotate_left
  · intro wit__; simp only [↓FB.viaW wit__ (by
      clear wit__
      refine d__first_cells.F.ok sc__first_cells (fun vs H Q E ⟨_, _, _, ⟨_, _, _, e, _⟩, _⟩ => by rw [e]; rfl) (fun cdv A outer s H vs Q E hr h => ?_)
      obtain ⟨z, d, hz, ⟨v, l, n, rfl, hv, hl, rfl⟩, q⟩ := h
      refine ⟨_, (pss_cons (ps_set (i := 2) sc__first_cells.nd rfl (.inl rfl) (pe_lst pa_nil))
        (pss_cons (ps_set (i := 3) sc__first_cells.nd rfl (.inl rfl) (pv 1))
        (pss_cons (ps_for PassesOwn.never rfl (k_pit (K := K) (pi_tup (pv 0))) (k_pgt (K := K) (n := 3) (pgs_cons (pg_name (i := 4) sc__first_cells.nd rfl (Or.inl rfl)) (pgs_cons (pg_name (i := 5) sc__first_cells.nd rfl (Or.inl rfl)) (pgs_cons (pg_name (i := 6) sc__first_cells.nd rfl (Or.inl rfl)) pgs_nil))))
        (pss_cons (ps_if (pt_cmpR op_le (pv 3) pe_int (nomark _))
        (pss_one ps_break)
        pss_nil)
        (pss_cons (ps_expr (pe_bm PySem.F.plainAttrs_list PySem.F.slot_list_append PySem.F.type_list_append mt_append (pv 2) (pa_cons (pe_tup (pa_cons (pv 4) (pa_cons (pv 5) (pa_cons (pe_callB (call_min2 rfl) (by rfl) T.min (by decide +kernel) (pa_cons (pv 6) (pa_cons (pv 3) pa_nil))) pa_nil)))) pa_nil)))
        (pss_one (ps_aug (i := 3) sc__first_cells.nd rfl (.inl rfl) (pv 6) ip_sub)))))
        (pss_one (ps_ret (pv 2)))))), ?_⟩
      obtain ⟨a, vs, rfl, nu, ha, hds⟩ := hv.tupAt
      have hlen := hds.len
      rw [List.length_map] at hlen
      refine q_new (z := z) hz fun p hn b1 => ?_
      refine q_set (z := z.add p) (φ := Is (.int n)) b1.rz (ev_is rfl) fun v3 H2 r2 f2 => ?_
      have e3 := f2 H2 .refl
      subst e3
      have b2 := b1.go hn hz r2
      obtain ⟨nu', ha2⟩ := b2.at hn nu ha
      have fin : ∀ {H4 : Hp} {m : Int} {o4 o5 o6 : Option V} {D : Ends}, D.rt = Q → Bl z p H H4 ((firstC l n).map trD) → tRet (tVar 2) D [some (.ref a), some (.int n), some (.ref p), some (.int m), o4, o5, o6] H4 := fun {H4 m o4 o5 o6 D} eD b =>
        s_ret (z := z) (φ := Dd z (plD (firstC l n))) b.r.dr (ev_var rfl fun H' w => (b.list hn hz).w w) fun v' H5 r5 f => by
          rw [eD]
          exact q v' H5 (b.r.tr r5) f
      refine q_forTG (z := z.add p) (xs := vs) b2.rz (ev_tupv rfl nu' ha2) fun H3 r3 => ?_
      have b3 := b2.go hn hz r3
      refine ⟨fun i σ' H' => (z.add p).W H3 H' ∧ ∃ acc m o4 o5 o6, Bl z p H H' (acc.map trD) ∧ acc.length ≤ i ∧ σ' = [some (.ref a), some (.int n), some (.ref p), some (.int m), o4, o5, o6] ∧ acc ++ firstC (l.drop i) m = firstC l n,
        ⟨.refl, [], n, none, none, none, b3, Nat.le_refl _, rfl, rfl⟩, fun i σ' H' hP => hP.1, fun i x σ' H' hx hP => ?_, fun σ' H' hP => ?_⟩
      · obtain ⟨w4, acc, m, o4, o5, o6, b, hal, rfl, eq⟩ := hP
        have hi : i < vs.length := (List.getElem?_eq_some_iff.mp hx).1
        obtain ⟨d', hd, dv⟩ := hds.at hx
        rw [List.getElem?_map] at hd
        obtain ⟨t, ht, rfl⟩ := Option.map_eq_some_iff.mp hd
        rw [drop_at ht] at eq
        have dv' := b.du hn dv
        refine g_tri (z := z.add p) dv' ?_
        refine q_if (z := z.add p) b.rz (et_test (ev_i0 (g := fun i j => .bl (decide (i ≤ j))) (ev_is rfl) ev_k)) (fun hb H5 r5 => ?_) (fun hb H5 r5 => ?_)
        · have hm : m ≤ 0 := of_decide_eq_true hb
          have e2 : acc = firstC l n := by
            rw [← eq]
            show acc = acc ++ (if m ≤ 0 then [] else _)
            rw [if_pos hm, List.append_nil]
          have b5 := b.go hn hz r5
          rw [e2] at b5
          exact fin rfl b5
        · have hm : ¬ m ≤ 0 := of_decide_eq_false hb
          have e2 : acc ++ (t.1, t.2.1, if m < t.2.2 then m else t.2.2) :: firstC (l.drop (i + 1)) (m - t.2.2) = firstC l n := by
            rw [← eq]
            show _ = acc ++ (if m ≤ 0 then [] else _)
            rw [if_neg hm]
          have b5 := b.go hn hz r5
          refine bl_app (D := { nx := _, ct := _, bk := _, rt := _ }) (d := trD (t.1, t.2.1, if m < t.2.2 then m else t.2.2)) b5 hn hz (ev_is rfl) (fun H6 r6 => ev_tri (ev_is rfl) (ev_is rfl) (ev_min (ev_is rfl) (ev_is rfl))) (by rw [List.length_map]; omega) fun H7 w7 b7 => ?_
          refine s_augI (z := z.add p) (a := m) (b := t.2.2) b7.rz rfl (ev_is rfl) fun H8 r8 => ?_
          have b8 := b7.go hn hz r8
          refine ⟨((w4.tr r5.w).tr w7).tr r8.w, acc ++ [(t.1, t.2.1, if m < t.2.2 then m else t.2.2)], m - t.2.2, _, _, _, by rw [List.map_append]; exact b8, by rw [List.length_append]; show acc.length + 1 ≤ i + 1; omega, rfl, ?_⟩
          rw [← e2, List.append_assoc]
          rfl
      · obtain ⟨w4, acc, m, o4, o5, o6, b, hal, rfl, eq⟩ := hP
        rw [hlen, List.drop_length] at eq
        have e2 : acc = firstC l n := by
          rw [← eq]
          show acc = acc ++ []
          rw [List.append_nil]
        rw [e2] at b
        exact fin rfl b)]
  intro b q h; simpa using FB.pinF b h
  eq_refl
theorem ok_goes_on (T : Tx P K mg cs A_) (d__goes_on : Df K mg "_goes_on" s__goes_on ["part", "piece", "first"]) : FnOk P w K mg base CX0 1 d__goes_on.f d__goes_on.fd ["part", "piece", "first"] spGo := by
  refine' @FB.also _ _ ?_ ?_ ?_; rotate_left
  · intro wit__; simp only [↓FB.viaW wit__ (by
      clear wit__
      refine d__goes_on.F.ok sc__goes_on (fun vs H Q E ⟨_, _, _, ⟨_, _, _, _, e, _⟩, _⟩ => by rw [e]; rfl) (fun cdv A outer s H vs Q E hr h => ?_)
      obtain ⟨z, d, hz, ⟨v, t, p, f, rfl, hv, rfl⟩, q⟩ := h
      refine ⟨_, (pss_cons (ps_asg (pv 0) (k_pgt (K := K) (n := 3) (pgs_cons (pg_name (i := 3) sc__goes_on.nd rfl (Or.inl rfl)) (pgs_cons (pg_name (i := 4) sc__goes_on.nd rfl (Or.inl rfl)) (pgs_cons (pg_name (i := 5) sc__goes_on.nd rfl (Or.inl rfl)) pgs_nil)))))
        (pss_one (ps_ret (pe_and (pe_cmpR op_eq (pv 3) (pv 1) (nomark _)) (pe_one (pe_cmpR op_eq (pe_op op_add (pv 4) (pv 5)) (pv 2) (nomark _))))))), ?_⟩
      refine q_tri (z := z) hz (ev_var rfl fun H' w => hv.w w) fun H1 r1 => ?_
      refine s_ret (z := z) (φ := Is (.bl (goB t p f))) r1.dr (ev_and (ev_eq (ev_is rfl) (ev_is rfl) rfl) fun _ => ev_eq (ev_i0 (g := fun i j => .int (i + j)) (ev_is rfl) (ev_is rfl)) (ev_is rfl) rfl) fun v' H3 r3 f3 => q v' H3 (r1.tr r3) fun H4 w4 => by
        have e : v' = .bl (goB t p f) := f3 H4 w4
        rw [e]
        exact .bl _)]
  intro b q h; simpa using FB.pinF b h
  eq_refl
theorem ok_joined (T : Tx P K mg cs A_) (d__joined : Df K mg "_joined" s__joined ["parts"]) (d__goes_on : Df K mg "_goes_on" s__goes_on ["part", "piece", "first"]) (G__goes_on : FnOk P w K mg base CX0 1 d__goes_on.f d__goes_on.fd ["part", "piece", "first"] spGo) :
    FnOk P w K mg base CX0 2 d__joined.f d__joined.fd ["parts"] spJoin := by
  refine' @FB.also _ _ ?_ ?_ ?_; rotate_left
  · intro wit__; simp only [↓FB.viaW wit__ (by
      clear wit__
      refine d__joined.F.ok sc__joined (fun vs H Q E ⟨_, _, _, ⟨_, _, e, _⟩, _⟩ => by rw [e]; rfl) (fun cdv A outer s H vs Q E hr h => ?_)
      obtain ⟨z, d, hz, ⟨v, l, rfl, hv, hl, rfl⟩, q⟩ := h
      refine ⟨_, (pss_cons (ps_set (i := 1) sc__joined.nd rfl (.inl rfl) (pe_lst pa_nil))
        (pss_cons (ps_for PassesOwn.never rfl (k_pil (K := K) (pi_list (pv 0))) (k_pgt (K := K) (n := 3) (pgs_cons (pg_name (i := 2) sc__joined.nd rfl (Or.inl rfl)) (pgs_cons (pg_name (i := 3) sc__joined.nd rfl (Or.inl rfl)) (pgs_cons (pg_name (i := 4) sc__joined.nd rfl (Or.inl rfl)) pgs_nil))))
        (pss_one (ps_if (PW.pt (pw_and (pt_truth (pv 1) (by intro _; rfl)) (pw_and1 (pt_val (pe_call G__goes_on (hr.mono (by decide)) (by rfl) d__goes_on.g d__goes_on.F.kp d__goes_on.b .nil pass0 (pa_cons (pe_ix (k_ixl (K := K)) (pv 1) (pe_un un_neg pe_int) (fun _ _ => rfl)) (pa_cons (pv 2) (pa_cons (pv 3) pa_nil))))))))
        (pss_cons (ps_asg (pe_ix (k_ixl (K := K)) (pv 1) (pe_un un_neg pe_int) (fun _ _ => rfl)) (k_pgt (K := K) (n := 3) (pgs_cons (pg_name (i := 5) sc__joined.nd rfl (Or.inl rfl)) (pgs_cons (pg_name (i := 6) sc__joined.nd rfl (Or.inl rfl)) (pgs_cons (pg_name (i := 7) sc__joined.nd rfl (Or.inl rfl)) pgs_nil)))))
        (pss_one (ps_asg (pe_tup (pa_cons (pv 2) (pa_cons (pv 6) (pa_cons (pe_op op_add (pv 7) (pv 4)) pa_nil)))) (pg_sub (pv 1) (pe_un un_neg pe_int) set_list))))
        (pss_one (ps_expr (pe_bm PySem.F.plainAttrs_list PySem.F.slot_list_append PySem.F.type_list_append mt_append (pv 1) (pa_cons (pe_tup (pa_cons (pv 2) (pa_cons (pv 3) (pa_cons (pv 4) pa_nil)))) pa_nil)))))))
        (pss_one (ps_ret (pe_callTy (k_tuple (K := K)) (by rfl) T.tuple (by decide +kernel) (pa_cons (pv 1) pa_nil)))))), ?_⟩
      obtain ⟨a, vs, rfl, nu, ha, hds⟩ := hv.lstAt
      have hlen := hds.len
      rw [List.length_map] at hlen
      refine q_new (z := z) hz fun p hn b1 => ?_
      obtain ⟨nu', ha2⟩ := b1.at hn nu ha
      refine q_forLG (z := z.add p) (xs := vs) b1.rz (ev_lstv2 rfl nu' ha2) fun H3 r3 => ?_
      have b3 := b1.go hn hz r3
      refine ⟨fun i σ' H' => (z.add p).W H3 H' ∧ ∃ acc o2 o3 o4 o5 o6 o7, Bl z p H H' (acc.map trD) ∧ acc.length ≤ i ∧ σ' = [some (.ref a), some (.ref p), o2, o3, o4, o5, o6, o7] ∧ (l.drop i).foldl joinStep acc = joined l,
        ⟨.refl, [], none, none, none, none, none, none, b3, Nat.le_refl _, rfl, rfl⟩, fun i σ' H' hP => hP.1, fun i x σ' H' hx hP => ?_, fun σ' H' hP => ?_⟩
      · obtain ⟨w4, acc, o2, o3, o4, o5, o6, o7, b, hal, rfl, eq⟩ := hP
        have hi : i < vs.length := (List.getElem?_eq_some_iff.mp hx).1
        obtain ⟨d', hd, dv⟩ := hds.at hx
        rw [List.getElem?_map] at hd
        obtain ⟨t, ht, rfl⟩ := Option.map_eq_some_iff.mp hd
        rw [drop_at ht] at eq
        have eq' : (l.drop (i + 1)).foldl joinStep (joinStep acc t) = joined l := eq
        have dv' := b.du hn dv
        refine g_tri (z := z.add p) dv' ?_
        have new : ∀ {H5 : Hp} {D : Ends}, (z.add p).R H' H5 → (∀ H7, (z.add p).W H' H7 → Bl z p H H7 ((acc ++ [t]).map trD) → D.nx [some (.ref a), some (.ref p), some (.int t.1), some (.int t.2.1), some (.int t.2.2), o5, o6, o7] H7) →
            tDrop (tBM K "list" rAppend (tVar 1) (tCons (tTup (tCons (tVar 2) (tCons (tVar 3) (tCons (tVar 4) tNil)))) tNil)) D [some (.ref a), some (.ref p), some (.int t.1), some (.int t.2.1), some (.int t.2.2), o5, o6, o7] H5 := fun {H5 D} r5 k =>
          bl_app (d := trD (t.1, t.2.1, t.2.2)) (b.go hn hz r5) hn hz (ev_is rfl) (fun H6 r6 => ev_tri (ev_is rfl) (ev_is rfl) (ev_is rfl)) (by rw [List.length_map]; omega) fun H7 w7 b7 => k H7 (r5.w.tr w7) (by rw [List.map_append]; exact b7)
        have put : ∀ {acc2 : List Tri} {H7 : Hp} {o2 o3 o4 o5 o6 o7 : Option V}, (z.add p).W H' H7 → Bl z p H H7 (acc2.map trD) → acc2.length ≤ i + 1 → joinStep acc t = acc2 → (z.add p).W H3 H7 ∧ ∃ acc o2' o3' o4' o5' o6' o7', Bl z p H H7 (acc.map trD) ∧ acc.length ≤ i + 1 ∧
            [some (V.ref a), some (.ref p), o2, o3, o4, o5, o6, o7] = [some (.ref a), some (.ref p), o2', o3', o4', o5', o6', o7'] ∧ (l.drop (i + 1)).foldl joinStep acc = joined l := fun {acc2 H7 o2 o3 o4 o5 o6 o7} w7 b7 hl7 e7 =>
          ⟨w4.tr w7, acc2, o2, o3, o4, o5, o6, o7, b7, hl7, rfl, by rw [← e7]; exact eq'⟩
        rcases List.eq_nil_or_concat acc with rfl | ⟨pre, last, rfl⟩
        · refine s_if (z := z.add p) (b := false) b.rz (et_to (et_and (b := true) (et_list b hn hz (ev_is rfl)) fun hc => by cases hc) rfl) (fun hb => by cases hb) fun _ H5 r5 => ?_
          exact new r5 fun H7 w7 b7 => put w7 b7 (by show 1 ≤ i + 1; omega) rfl
        · rw [List.concat_eq_append] at b hal eq' new put
          have bl : Bl z p H H' (pre.map trD ++ [trD last]) := by
            have := b
            rw [List.map_append] at this
            exact this
          have lastE : ∀ {H5 : Hp} {σ : L2.St}, (z.add p).R H' H5 → σ[1]? = some (some (.ref p)) → Ev (z.add p) (tOp (rIxL K) (tVar 1) (tUn (rU fun i => .int (-i)) (tC (.int 1)))) σ H5 (Dd (z.add p) (trD last)) := fun r e =>
            ev_last (bl.go hn hz r) hn hz (ev_is e) (ev_un ev_k fun x H1 r1 e1 => by
              have e1' : x = .int 1 := e1
              subst e1'
              exact rn_val r1.dr (fun Q q => ⟨1, rfl, q⟩) fun _ _ => rfl)
          refine s_if (z := z.add p) (b := goB last t.1 t.2.1) b.rz (et_to (et_and (b := goB last t.1 t.2.1) (et_list b hn hz (ev_is rfl)) fun _ => et_B (ev_bl (ev_F (A := fun z H vs d => ∃ v t p f, vs = [v, .int p, .int f] ∧ DU z.U H v (trD t) ∧ d = .bool (goB t p f)) (ea_cons (φ := Dd (z.add p) (trD last)) (lastE b.rz rfl) fun v5 H5 r5 _ => ea_is (ev_is rfl) (ea_is (ev_is rfl) ea_nil)) fun us H5 r5 h5 => ?_))) ?_) (fun hb H5 r5 => ?_) (fun hb H5 r5 => ?_)
          · obtain ⟨v5, rr, rfl, hv5, rfl⟩ := h5
            exact ⟨v5, last, t.1, t.2.1, rfl, hv5, rfl⟩
          · simp
          · obtain ⟨h1, h2⟩ := goB_iff.mp hb
            have e5 : joinStep (pre ++ [last]) t = pre ++ [(t.1, last.2.1, last.2.2 + t.2.2)] := by
              rw [joinStep_app, if_pos ⟨h1, h2⟩]
            refine q_tri (z := z.add p) r5.dr (lastE r5 rfl) fun H6 r6 => ?_
            have r56 := r5.tr r6
            refine bl_last (d := trD last) (e := trD (t.1, last.2.1, last.2.2 + t.2.2)) (bl.go hn hz r56) hn hz (fun H1 r1 => ev_is rfl) (fun H1 r1 => ev_un ev_k fun x H1 r1 e1 => by
              have e1' : x = .int 1 := e1
              subst e1'
              exact rn_val r1.dr (fun Q q => ⟨1, rfl, q⟩) fun _ _ => rfl) (ev_tri (ev_is rfl) (ev_is rfl) (ev_i0 (g := fun i j => .int (i + j)) (ev_is rfl) (ev_is rfl))) fun H7 w7 b7 => ?_
            rw [List.length_append] at hal
            exact put (r56.w.tr w7) (by rw [List.map_append]; exact b7) (by rw [List.length_append]; exact Nat.le_succ_of_le hal) e5
          · refine new r5 fun H7 w7 b7 => put w7 b7 (by rw [List.length_append]; show (pre ++ [last]).length + 1 ≤ i + 1; omega) ?_
            rw [joinStep_app, if_neg fun h => ?_]
            rw [goB_iff.mpr h] at hb
            cases hb
      · obtain ⟨w4, acc, o2, o3, o4, o5, o6, o7, b, hal, rfl, eq⟩ := hP
        rw [hlen, List.drop_length] at eq
        have e2 : acc = joined l := eq
        rw [e2] at b
        exact s_ret (z := z) (φ := Dd z (paD (joined l))) b.r.dr (ev_tupD (ev_var rfl fun H' w => (b.list hn hz).w w)) fun v' H5 r5 f => q v' H5 (b.r.tr r5) f)]
  intro b q h; simpa using FB.pinF b h
  eq_refl
theorem ok_shortened (T : Tx P K mg cs A_) (d_shortened : Df K mg "shortened" s_shortened ["parts", "many"]) (d__first_cells : Df K mg "_first_cells" s__first_cells ["parts", "many"]) (d__joined : Df K mg "_joined" s__joined ["parts"])
    (G__first_cells : FnOk P w K mg base CX0 1 d__first_cells.f d__first_cells.fd ["parts", "many"] spFirst) (G__joined : FnOk P w K mg base CX0 2 d__joined.f d__joined.fd ["parts"] spJoin) :
    FnOk P w K mg base CX0 3 d_shortened.f d_shortened.fd ["parts", "many"] spShr := by
  refine' @FB.also _ _ ?_ ?_ ?_; rotate_left
  · intro wit__; simp only [↓FB.viaW wit__ (by
      clear wit__
      refine d_shortened.F.ok sc_shortened (fun vs H Q E ⟨_, _, _, ⟨_, _, _, e, _⟩, _⟩ => by rw [e]; rfl) (fun cdv A outer s H vs Q E hr h => ?_)
      obtain ⟨z, d, hz, ⟨v, l, n, rfl, hv, hl, rfl⟩, q⟩ := h
      refine ⟨_, (pss_one (ps_ret (pe_call G__joined (hr.mono (by decide)) (by rfl) d__joined.g d__joined.F.kp d__joined.b .nil pass0 (pa_cons (pe_call G__first_cells (hr.mono (by decide)) (by rfl) d__first_cells.g d__first_cells.F.kp d__first_cells.b .nil pass0 (pa_cons (pv 0) (pa_cons (pv 1) pa_nil))) pa_nil)))), ?_⟩
      exact s_ret (z := z) (φ := Dd z (paD (shr l n))) hz (ev_joined (ev_first (ev_var rfl fun H' w => hv.w w) (ev_is rfl) hl) (Nat.le_trans (first_len l n) (by omega))) fun v' H3 r3 f => q v' H3 r3 f)]
  intro b q h; simpa using FB.pinF b h
  eq_refl
theorem ok__old_place (T : Tx P K mg cs A_) (d__old_place : Df K mg "_old_place" s__old_place ["core", "user", "path"]) (d__folder_of : Df K mg "_folder_of" s__folder_of ["core", "user", "path"])
    (G__folder_of : FnOk P w K mg base CX0 3 d__folder_of.f d__folder_of.fd ["core", "user", "path"] (spRes K cs.Folder cs.File cs.Core ofN)) : FnOk P w K mg base CX0 4 d__old_place.f d__old_place.fd ["core", "user", "path"] (spRes K cs.Folder cs.File cs.Core (placeN "top" "nothere" false)) := by
  refine' @FB.also _ _ ?_ ?_ ?_; rotate_left
  · intro wit__; simp only [↓FB.viaW wit__ (by
      clear wit__
      refine d__old_place.F.ok sc__old_place (fun vs H Q E ⟨_, _, _, _, _, _, _, _, _, e, _⟩ => by rw [e]; rfl) (fun cdv A outer s H vs Q E hr h => ?_)
      obtain ⟨z, c, co, fo, ws, N, user, v, xs, rfl, hz, hc, hv, q⟩ := h
      refine ⟨_, (pss_cons (ps_if (pt_not (pt_truth (pv 2) (by intro _; rfl)))
        (pss_one (ps_ret pe_str))
        pss_nil)
        (pss_cons (ps_set (i := 3) sc__old_place.nd rfl (.inl rfl) (pe_call G__folder_of (hr.mono (by decide)) (by rfl) d__folder_of.g d__folder_of.F.kp d__folder_of.b .nil pass0 (pa_cons (pv 0) (pa_cons (pv 1) (pa_cons (pv 2) pa_nil)))))
        (pss_cons (ps_if (pt_val (pe_callB (k_isi (K := K)) (by rfl) T.isinstance (by decide +kernel) (pa_cons (pv 3) (pa_cons (pe_bltn (v := .ty "str") (by rfl) T.str (by decide +kernel) rfl) pa_nil))))
        (pss_one (ps_ret (pv 3)))
        pss_nil)
        (pss_one (ps_ret (pe_ifExp (pt_cmp (pc_din (lt1 hr.units) (pe_ix (k_ixt (K := K)) (pv 2) (pe_un un_neg pe_int) (fun _ _ => rfl)) (k_fld (K := K) (pv 3) rfl)) (by rfl)) (pv 3) pe_str)))))), ?_⟩
      refine q_if (z := z) hz (et_not (et_tupS (xs := xs) (ev_var rfl fun H' w => hv.w w))) (fun hb H1 r1 => ?_) (fun hb H1 r1 => ?_)
      · have ex : xs = [] := by
          cases xs with
          | nil => rfl
          | cons _ _ => simp at hb
        subst ex
        exact ret_to (r := .inl "top") q r1 rfl ev_k
      obtain ⟨x, hx⟩ : ∃ x, xs.getLast? = some x := by
        cases e : xs.getLast? with
        | some x => exact ⟨x, rfl⟩
        | none =>
          rw [List.getLast?_eq_none_iff.mp e] at hb
          simp at hb
      unfold placeN at q
      simp only [hx] at q
      have hc1 := hc.go r1
      refine q_set (z := z) (φ := Is (outV (ofN N fo user xs co.top))) r1.dr (ev_res (F := ofN) hc1 (ev_is rfl) (fun _ _ => ev_is rfl) fun H2 r2 => (ev_var rfl fun H' w => (hv.w (r1.tr r2).w).w w)) fun v3 H2 r2 f2 => ?_
      have e3 := f2 H2 .refl
      subst e3
      have r12 := r1.tr r2
      have hc2 := hc.go r12
      refine q_if (z := z) r2.dr (et_B (ev_isS T.N T.KD hc2.ht (fun b e => let ⟨n, _, hn, _⟩ := of_ok hc.ht.ok hc.n0 e; ⟨n, hn⟩) (ev_is rfl))) (fun hb2 H3 r3 => ?_) (fun hb2 H3 r3 => ?_)
      · cases eo : ofN N fo user xs co.top with
        | inr b => rw [eo] at hb2; cases hb2
        | inl wd =>
          simp only [eo] at q
          exact ret_to (r := .inl wd) q (r12.tr r3) rfl (ev_is rfl)
      · cases eo : ofN N fo user xs co.top with
        | inl wd => rw [eo] at hb2; cases hb2
        | inr a =>
          obtain ⟨n, d, hn, hd⟩ := of_ok hc.ht.ok hc.n0 eo
          simp only [eo, hn] at q
          have r13 := r12.tr r3
          have hc3 := hc.go r13
          obtain ⟨na, hna, hrt⟩ := hc3.ht.at_ a n hn
          obtain ⟨nd, hdd⟩ := hc3.ht.kd a n d hn hd
          have names : ∀ {H' : Hp} {σ : L2.St}, z.R H3 H' → σ[3]? = some (some (.ref a)) → Ev z (tFld K (tVar 3) "names") σ H' (Is (.ref d)) := fun r e => ev_to (ev_nd T.N na (hna.go na r) (by simp [ndF]) (nd_names n) (ev_is e)) (by rw [hd]; rfl)
          refine ret_to (r := if (kidOf n.kids x).isSome = false then .inl "nothere" else .inr a) q r13 rfl (ev_if (b := (kidOf n.kids x).isSome) (et_B (ev_to (ev_din (z := z) (x := x) nd hdd (fun H4 r4 => names r4 rfl) (ev_lastS (ev_var rfl fun H' w => (hv.w r13.w).w w) hx)) (by rw [kids_val]; cases kidOf n.kids x <;> rfl))) (fun hm => ?_) fun hm => ?_)
          · rw [if_neg (by rw [hm]; decide)]
            exact ev_is rfl
          · rw [if_pos hm]
            exact ev_k)]
  intro b q h; simpa using FB.pinF b h
  eq_refl
theorem ok_file_at (T : Tx P K mg cs A_) (d_file_at : Df K mg "file_at" s_file_at ["core", "user", "path", "sign"]) (d_come_to : Df K mg "come_to" s_come_to ["core", "user", "path"]) (d_lets : Df K mg "lets" s_lets ["members", "user", "sign", "node"])
    (G_come_to : FnOk P w K mg base CX0 2 d_come_to.f d_come_to.fd ["core", "user", "path"] (spRes K cs.Folder cs.File cs.Core goN)) (G_lets : FnOk P w K mg base CX0 1 d_lets.f d_lets.fd ["members", "user", "sign", "node"] (spLets K cs.Folder cs.File)) :
    FnOk P w K mg base CX0 3 d_file_at.f d_file_at.fd ["core", "user", "path", "sign"] (spFileAt K cs.Folder cs.File cs.Core) := by
  refine' @FB.also _ _ ?_ ?_ ?_; rotate_left
  · intro wit__; simp only [↓FB.viaW wit__ (by
      clear wit__
      refine d_file_at.F.ok sc_file_at (fun vs H Q E ⟨_, _, _, _, _, _, _, _, _, _, e, _⟩ => by rw [e]; rfl) (fun cdv A outer s H vs Q E hr h => ?_)
      obtain ⟨z, c, co, fo, ws, N, user, v, xs, sg, rfl, hz, hc, hv, q⟩ := h
      refine ⟨_, (pss_cons (ps_set (i := 4) sc_file_at.nd rfl (.inl rfl) (pe_call G_come_to (hr.mono (by decide)) (by rfl) d_come_to.g d_come_to.F.kp d_come_to.b .nil pass0 (pa_cons (pv 0) (pa_cons (pv 1) (pa_cons (pv 2) pa_nil)))))
        (pss_cons (ps_if (pt_val (pe_callB (k_isi (K := K)) (by rfl) T.isinstance (by decide +kernel) (pa_cons (pv 4) (pa_cons (pe_bltn (v := .ty "str") (by rfl) T.str (by decide +kernel) rfl) pa_nil))))
        (pss_one (ps_ret (pv 4)))
        pss_nil)
        (pss_cons (ps_if (pt_cmpR op_notN (k_fld (K := K) (pv 4) rfl) pe_non (nomark _))
        (pss_one (ps_ret pe_str))
        pss_nil)
        (pss_cons (ps_if (PW.pt (pw_and (pt_cmpR op_notN (pv 3) pe_non (nomark _)) (pw_and1 (pt_not (pt_val (pe_call G_lets (hr.mono (by decide)) (by rfl) d_lets.g d_lets.F.kp d_lets.b .nil pass0 (pa_cons (k_fld (K := K) (pv 0) rfl) (pa_cons (pv 1) (pa_cons (pv 3) (pa_cons (pv 4) pa_nil))))))))))
        (pss_one (ps_ret pe_str))
        pss_nil)
        (pss_one (ps_ret (pv 4))))))), ?_⟩
      refine q_set (z := z) (φ := Is (outV (goN N fo user xs co.top))) hz (ev_res (F := goN) hc (ev_is rfl) (fun _ _ => ev_is rfl) fun H1 r1 => (ev_var rfl fun H' w => (hv.w r1.w).w w)) fun v4 H1 r1 f1 => ?_
      have e4 := f1 H1 .refl
      subst e4
      have hc1 := hc.go r1
      have okb : ∀ b, goN N fo user xs co.top = .inr b → ∃ n, N b = some n := fun b e => goN_node hc.ht.ok _ _ b hc.n0 e
      refine q_if (z := z) r1.dr (et_B (ev_isS T.N T.KD hc1.ht okb (ev_is rfl))) (fun hb H2 r2 => ?_) (fun hb H2 r2 => ?_)
      · cases eg : goN N fo user xs co.top with
        | inr b => rw [eg] at hb; cases hb
        | inl wd =>
          have eo : filS sg N fo user xs co.top = .inl wd := by
            unfold filS
            rw [eg]
            cases sg <;> rfl
          rw [eo] at q
          exact ret_to q (r1.tr r2) rfl (ev_is rfl)
      cases eg : goN N fo user xs co.top with
      | inl wd => rw [eg] at hb; cases hb
      | inr a =>
        obtain ⟨n, hn⟩ := okb a eg
        have r12 := r1.tr r2
        have hc2 := hc.go r12
        obtain ⟨na, hna, hrt⟩ := hc2.ht.at_ a n hn
        have ef : filN N (.inr a) = if n.nm.isSome then .inl "nofile" else .inr a := by
          unfold filN
          simp only [hn]
        refine q_if (z := z) (b := !n.nm.isNone) r2.dr (et_test (ev_to (ev_notN (ev_nd T.N na hna (by simp [ndF]) (nd_names n) (ev_is rfl))) (by rw [nm_non]))) (fun hb2 H3 r3 => ?_) (fun hb2 H3 r3 => ?_)
        · have hs : n.nm.isSome = true := by cases e : n.nm <;> rw [e] at hb2 <;> simp_all
          have eo : filS sg N fo user xs co.top = .inl "nofile" := by
            unfold filS
            rw [eg, ef, if_pos hs]
            cases sg <;> rfl
          rw [eo] at q
          exact ret_to (r := .inl "nofile") q (r12.tr r3) rfl ev_k
        have hs : n.nm.isSome = false := by cases e : n.nm <;> rw [e] at hb2 <;> simp_all
        have ef2 : filN N (.inr a) = .inr a := by rw [ef, if_neg (by rw [hs]; decide)]
        have r13 := r12.tr r3
        have hc3 := hc.go r13
        cases sg with
        | none =>
          have eo : filS none N fo user xs co.top = .inr a := by
            unfold filS
            simp only [eg, ef2]
          rw [eo] at q
          refine q_if (z := z) (b := false) r3.dr (et_to (et_and (a := false) (b := false) (et_test (ev_to (ev_notN (ev_is rfl)) rfl)) fun h => by cases h) rfl) (fun hb => by cases hb) fun _ H4 r4 => ?_
          exact ret_to (r := .inr a) q (r13.tr r4) rfl (ev_is rfl)
        | some ch =>
          have eo : filS (some ch) N fo user xs co.top = if mayN fo user ch n then .inr a else .inl "noright" := by
            unfold filS
            simp only [eg, ef2]
            unfold letN
            simp only [hn]
          rw [eo] at q
          refine q_if (z := z) (b := !mayN fo user ch n) r3.dr (et_to (et_and (a := true) (b := !mayN fo user ch n) (et_test (ev_to (ev_notN (ev_is rfl)) rfl)) fun _ => et_not (et_B (ev_lets hc3.nq hc3.hm na (hna.go na r3) (hrt.w r3.w) (ev_co T.CO hc3.nc hc3.hc (by simp [coF]) rfl (ev_is rfl)) (fun _ _ => ev_is rfl) (fun _ _ => ev_is rfl) fun _ _ => ev_is rfl))) (by rw [Bool.true_and])) (fun hm H4 r4 => ?_) fun hm H4 r4 => ?_
          · have hm' : mayN fo user ch n = false := by simpa using hm
            rw [if_neg (by rw [hm']; decide)] at q
            exact ret_to (r := .inl "noright") q (r13.tr r4) rfl ev_k
          · have hm' : mayN fo user ch n = true := by simpa using hm
            rw [if_pos hm'] at q
            exact ret_to (r := .inr a) q (r13.tr r4) rfl (ev_is rfl))]
  intro b q h; simpa using FB.pinF b h
  eq_refl
theorem et_dicK {z : Zn} {σ : L2.St} {H : Hp} {te : TE} {d : Addr} {kvs : List (Key × V)} (nd : z.I d = none) (hd : H d = some (.dK kvs)) (h : Ev z te σ H (Is (.ref d))) : EvT z (fun σ H Q => te σ H fun x H' => ∃ k, TruV K x H' k ∧ Q k H') σ H (· = !kvs.isEmpty) := by
  refine' @FB.also _ _ ?_ ?_ ?_; rotate_left
  · intro wit__; simp only [↓FB.viaW wit__ (by
      clear wit__
      exact fun H1 e Q q =>
        h H1 e _ fun v H2 e2 f => by
          have ev : v = .ref d := f H2 .refl
          subst ev
          exact ⟨!kvs.isEmpty, .inr (.inr ⟨kvs, (e.tr e2).kp d _ nd hd, rfl⟩), q _ H2 e2 rfl⟩)]
  intro b q h; simpa using FB.pinF b h
  eq_refl
theorem ok__strike (T : Tx P K mg cs A_) (d__strike : Df K mg "_strike" s__strike ["core", "user", "deed"]) (d__old_place : Df K mg "_old_place" s__old_place ["core", "user", "path"])
    (G__old_place : FnOk P w K mg base CX0 4 d__old_place.f d__old_place.fd ["core", "user", "path"] (spRes K cs.Folder cs.File cs.Core (placeN "top" "nothere" false)))
    : FnOk P w K mg base CX0 5 d__strike.f d__strike.fd ["core", "user", "deed"] (spDeed K cs.Folder cs.File cs.Core (fun e => ∃ xs, e = .strike xs)) := by
  refine' @FB.also _ _ ?_ ?_ ?_; rotate_left
  · intro wit__; simp only [↓FB.viaW wit__ (by
      clear wit__
      refine d__strike.F.ok sc__strike (fun vs H Q E ⟨_, _, _, _, _, _, _, _, _, e, _⟩ => by rw [e]; rfl) (fun cdv A outer s H vs Q E hr h => ?_)
      obtain ⟨z, c, co, fo, ws, N, user, v, e, rfl, hz, hc, hv, ⟨xs, rfl⟩, hg, hpre, hkl, q⟩ := h
      refine ⟨_, (pss_cons (ps_set (i := 3) sc__strike.nd rfl (.inl rfl) (pe_ix (k_ixt (K := K)) (pv 2) pe_int (fun _ _ => rfl)))
        (pss_cons (ps_set (i := 4) sc__strike.nd rfl (.inl rfl) (pe_call G__old_place (hr.mono (by decide)) (by rfl) d__old_place.g d__old_place.F.kp d__old_place.b .nil pass0 (pa_cons (pv 0) (pa_cons (pv 1) (pa_cons (pv 3) pa_nil)))))
        (pss_cons (ps_if (pt_val (pe_callB (k_isi (K := K)) (by rfl) T.isinstance (by decide +kernel) (pa_cons (pv 4) (pa_cons (pe_bltn (v := .ty "str") (by rfl) T.str (by decide +kernel) rfl) pa_nil))))
        (pss_one (ps_ret (pe_tup (pa_cons pe_str (pa_cons (pv 4) pa_nil)))))
        pss_nil)
        (pss_cons (ps_set (i := 5) sc__strike.nd rfl (.inl rfl) (pe_dget (lt1 hr.units) (k_fld (K := K) (pv 4) rfl) (pe_ix (k_ixt (K := K)) (pv 3) (pe_un un_neg pe_int) (fun _ _ => rfl)) (fun _ _ => rfl)))
        (pss_cons (ps_if (pt_cmpR op_isN (k_fld (K := K) (pv 5) rfl) pe_non (nomark _))
        (pss_one (ps_fldaug (pv 5) pe_int in_sub))
        (pss_one (ps_if (pt_truth (k_fld (K := K) (pv 5) rfl) (by intro _; rfl))
        (pss_one (ps_ret (pe_tup (pa_cons pe_str (pa_cons pe_str pa_nil)))))
        (pss_one (ps_expr (pe_dpop2 (k_fld (K := K) (pv 0) rfl) (pv 5) pe_non ⟨rfl, rfl, rfl, rfl⟩))))))
        (pss_cons (ps_ddel (k_fld (K := K) (pv 4) rfl) (pe_ix (k_ixt (K := K)) (pv 3) (pe_un un_neg pe_int) (fun _ _ => rfl)))
        (pss_one (ps_ret (pe_glob (v := .ref A_.DONE) (by rfl) T.c_DONE rfl))))))))), ?_⟩
      refine q_set (z := z) (φ := Dd z (paS xs)) hz (ev_ixDT (j := 1) (ds := [.str "strike", paS xs]) (ev_var rfl fun H' w => hv.w w) (fun _ _ => ev_k) rfl) fun v3 H1 r1 f1 => ?_
      have hv1 : DU z.U H1 v3 (paS xs) := f1 H1 .refl
      have hc1 := hc.go r1
      refine q_set (z := z) (φ := Is (outV (placeN "top" "nothere" false N fo user xs co.top))) r1.dr (ev_res (F := placeN "top" "nothere" false) hc1.ca (ev_is rfl) (fun _ _ => ev_is rfl) fun H2 r2 => (ev_var rfl fun H' w => (hv1.w r2.w).w w)) fun v4 H2 r2 f2 => ?_
      have e4 := f2 H2 .refl
      subst e4
      have r12 := r1.tr r2
      have hc2 := hc.go r12
      refine q_if (z := z) r2.dr (et_B (ev_isS T.N T.KD hc2.ca.ht (fun b e => let ⟨_, n, _, _, hn, _⟩ := place_ok hc.ca.ht.ok hc.ca.n0 e; ⟨n, hn⟩) (ev_is rfl))) (fun hb H3 r3 => ?_) (fun hb H3 r3 => ?_)
      · cases ep : placeN "top" "nothere" false N fo user xs co.top with
        | inr b => rw [ep] at hb; cases hb
        | inl wd => exact s_ans q hc (r12.tr r3) rfl (.strikeNo ep) (ev_no fun _ _ => ev_is rfl)
      cases ep : placeN "top" "nothere" false N fo user xs co.top with
      | inl wd => rw [ep] at hb; cases hb
      | inr a =>
        obtain ⟨x, na, da, hx, hna, hda, hno⟩ := place_ok hc.ca.ht.ok hc.ca.n0 ep
        obtain ⟨b, hkid⟩ : ∃ b, kidOf na.kids x = some b := by
          cases e : kidOf na.kids x with
          | none => rw [e] at hno; exact absurd rfl hno
          | some b => exact ⟨b, rfl⟩
        obtain ⟨nb, hnb⟩ := hc.ca.ht.ok a na x b hna (kidOf_mem hkid)
        have r13 := r12.tr r3
        have hc3 := hc.go r13
        have names : ∀ {z' : Zn} {H' : Hp} {N' : NMap} {σ : L2.St}, CoFull K cs.Folder cs.File cs.Core z' H' c co fo ws N' → N' a = some na → σ[4]? = some (some (.ref a)) → Ev z' (tFld K (tVar 4) "names") σ H' (Is (.ref da)) := fun hc' e es => by
          obtain ⟨ia, nat, _⟩ := hc'.ca.ht.at_ a na e
          exact ev_to (ev_nd T.N ia nat (by simp [ndF]) (nd_names na) (ev_is es)) (by rw [hda]; rfl)
        have last : ∀ {H' : Hp} {σ : L2.St}, z.W H1 H' → σ[3]? = some (some v3) → Ev z (tOp (rIxT K) (tVar 3) (tUn (rU fun i => .int (-i)) (tC (.int 1)))) σ H' (Is (.str x)) := fun w e => ev_lastS (xs := xs) (ev_var e fun H'' w2 => (hv1.w w).w w2) hx
        obtain ⟨ida, hda3⟩ := hc3.ca.ht.kd a na da hna hda
        refine q_set (z := z) (i := 5) (φ := Is (.ref b)) r3.dr (ev_dgetS (z := z) (x := x) ida hda3 (names hc3 hna rfl) (fun H4 r4 => last ((r2.tr r3).tr r4).w rfl) (by rw [kids_val, hkid]; rfl)) fun v5 H4 r4 f4 => ?_
        have e5 := f4 H4 .refl
        subst e5
        have r14 := r13.tr r4
        have hc4 := hc.go r14
        obtain ⟨ib, hbat, hbrt⟩ := hc4.ca.ht.at_ b nb hnb
        refine q_ifE (z := z) (b := nb.nm.isNone) r4.dr (et_test (ev_to (ev_isN (ev_nd T.N ib hbat (by simp [ndF]) (nd_names nb) (ev_is rfl))) (by rw [nm_non]))) (fun hb2 H5 r5 => ?_) (fun hb2 H5 r5 => ?_)
        · have hbn : nb.nm = none := Option.isNone_iff_eq_none.mp hb2
          have r15 := r14.tr r5
          have hc5 := hc.go r15
          obtain ⟨ib5, hb5, hbrt5⟩ := hc5.ca.ht.at_ b nb hnb
          have hb5' : H5 b = some (.ins cs.File nb.dx nb.flds) := by
            have h1 : H5 b = some (.ins (if nb.nm.isSome then cs.Folder else cs.File) nb.dx nb.flds) := hb5
            rw [hbn] at h1
            exact h1
          refine ⟨.ref b, rfl, b, cs.File, nb.dx, nb.flds, .int nb.links, rfl, hb5', T.N.cL, T.N.nL _ (by simp), nd_links nb hbn, nb.links, 1, rfl, rfl, nb.dx, nb.flds, hb5', flds_len nb, ?_⟩
          dsimp only
          rw [put_links nb hbn]
          let nb' : Nd := { nb with links := nb.links - 1 }
          have hc6 := hc5.setN (n' := nb') hnb rfl rfl hbrt5 (hc5.ca.ht.op b nb hnb) fun e => hc5.ca.ht.pa b nb hnb e
          have eif : (if nb'.nm.isSome then cs.Folder else cs.File) = cs.File := by
            show (if nb.nm.isSome then cs.Folder else cs.File) = cs.File
            rw [hbn]
            rfl
          rw [eif] at hc6
          have ab : a ≠ b := fun e => by
            rw [e, hnb] at hna
            cases hna
            rw [hbn] at hda
            cases hda
          have hna6 : setN N b nb' a = some na := by rw [setN_ne ab]; exact hna
          have s6 : Step (ownP c N) z H5 z (upd H5 b (.ins cs.File nb.dx ({ nb with links := nb.links - 1 } : Nd).flds)) := Step.upd r15.dr hc5.su (.inr (.inl ⟨nb, hnb⟩)) hb5' ib5
          have s06 : Step (ownP c N) z H z _ := Step.tr hz (Step.of_R hc.su r15) s6 fun p h => .inl h
          have wl : z.W H1 H5 := (((r2.tr r3).tr r4).tr r5).w
          show tSeq _ _ _ _ _
          refine names (σ := [some (.ref c), some (.str user), some v, some v3, some (.ref a), some (.ref b)]) hc6 hna6 rfl _ s6.r _ fun y H7 r7 ey => last (σ := [some (.ref c), some (.str user), some v, some v3, some (.ref a), some (.ref b)]) ((wl.tr s6.w).tr r7.w) rfl H7 r7.dr _ fun y2 H8 r8 ey2 => ?_
          have ey' : y = .ref da := ey H7 .refl
          have ey2' : y2 = .str x := ey2 H8 .refl
          subst ey2'
          have r78 := r7.tr r8
          have hc8 := hc6.go r78
          obtain ⟨ida8, hda8⟩ := hc8.ca.ht.kd a na da hna6 hda
          refine ⟨da, _, (.inr x : Key), ey', hda8, rfl, by rw [kids_val, hkid]; rfl, ?_⟩
          rw [kids_drop]
          have hc9 := hc8.setKids hna6 hda (na.kids.filter fun p => decide (p.1 ≠ x)) fun y m hm => hc8.ca.ht.ok a na y m hna6 (List.mem_filter.mp hm).1
          have o6 : ∀ p, ownP c (setN N b nb') p → ownP c N p := own_set hnb rfl
          have s9 : Step (ownP c N) z H z (upd H8 da (.dK (kidsK (na.kids.filter fun p => decide (p.1 ≠ x))))) := Step.tr hz s06 (Step.tr s6.r (Step.of_R hc6.su r78) (Step.upd r78.dr hc8.su (.inr (.inr ⟨a, na, hna6, hda⟩)) hda8 ida8) fun p h => .inl h) fun p h => .inl (o6 p h)
          dsimp only
          refine s_ansS q hz s9 hc9 rfl (Res.strikeFile ep hx hna hkid hnb hbn) (fun p h => .inl (o6 p (own_set (na := na) (n := dropKid na x) hna6 rfl p h))) (ev_cst (xs := ["done"]) T.q_DONE)
        · obtain ⟨db, hdb⟩ : ∃ d, nb.nm = some d := by
            cases e : nb.nm with
            | none => rw [e] at hb2; cases hb2
            | some d => exact ⟨d, rfl⟩
          have hks : nb.kids ≠ [] := (hpre a x na b nb ep hx hna hkid hnb).resolve_left (by rw [hdb]; simp)
          have r15 := r14.tr r5
          have hc5 := hc.go r15
          obtain ⟨ib5, hb5, _⟩ := hc5.ca.ht.at_ b nb hnb
          obtain ⟨idb, hdb5⟩ := hc5.ca.ht.kd b nb db hnb hdb
          refine s_if (z := z) (b := true) r5.dr (et_to (et_dicK idb hdb5 (ev_to (ev_nd T.N ib5 hb5 (by simp [ndF]) (nd_names nb) (ev_is rfl)) (by rw [hdb]; rfl))) ?_) (fun _ H6 r6 => ?_) fun hb => by cases hb
          · unfold kidsK
            cases e : nb.kids with
            | nil => exact absurd e hks
            | cons _ _ => rfl
          · exact s_ans q hc (r15.tr r6) rfl (.strikeFull ep hx hna hkid hnb (by rw [hdb]; rfl) hks) (ev_no fun _ _ => ev_k))]
  intro b q h; simpa using FB.pinF b h
  eq_refl
theorem ok__cut (T : Tx P K mg cs A_) (d__cut : Df K mg "_cut" s__cut ["core", "user", "deed"]) (d_file_at : Df K mg "file_at" s_file_at ["core", "user", "path", "sign"]) (d_shortened : Df K mg "shortened" s_shortened ["parts", "many"])
    (G_file_at : FnOk P w K mg base CX0 3 d_file_at.f d_file_at.fd ["core", "user", "path", "sign"] (spFileAt K cs.Folder cs.File cs.Core)) (G_shortened : FnOk P w K mg base CX0 3 d_shortened.f d_shortened.fd ["parts", "many"] spShr)
    : FnOk P w K mg base CX0 5 d__cut.f d__cut.fd ["core", "user", "deed"] (spDeed K cs.Folder cs.File cs.Core (fun e => ∃ xs n, e = .cut xs n)) := by
  refine' @FB.also _ _ ?_ ?_ ?_; rotate_left
  · intro wit__; simp only [↓FB.viaW wit__ (by
      clear wit__
      refine d__cut.F.ok sc__cut (fun vs H Q E ⟨_, _, _, _, _, _, _, _, _, e, _⟩ => by rw [e]; rfl) (fun cdv A outer s H vs Q E hr h => ?_)
      obtain ⟨z, c, co, fo, ws, N, user, v, e, rfl, hz, hc, hv, ⟨xs, n, rfl⟩, hg, hpre, hkl, q⟩ := h
      refine ⟨_, (pss_cons (ps_asg (pv 2) (k_pgt (K := K) (n := 3) (pgs_cons (pg_name (i := 3) sc__cut.nd rfl (Or.inl rfl)) (pgs_cons (pg_name (i := 4) sc__cut.nd rfl (Or.inl rfl)) (pgs_cons (pg_name (i := 5) sc__cut.nd rfl (Or.inl rfl)) pgs_nil)))))
        (pss_cons (ps_set (i := 6) sc__cut.nd rfl (.inl rfl) (pe_call G_file_at (hr.mono (by decide)) (by rfl) d_file_at.g d_file_at.F.kp d_file_at.b .nil pass0 (pa_cons (pv 0) (pa_cons (pv 1) (pa_cons (pv 4) (pa_cons pe_str pa_nil))))))
        (pss_cons (ps_if (pt_val (pe_callB (k_isi (K := K)) (by rfl) T.isinstance (by decide +kernel) (pa_cons (pv 6) (pa_cons (pe_bltn (v := .ty "str") (by rfl) T.str (by decide +kernel) rfl) pa_nil))))
        (pss_one (ps_ret (pe_tup (pa_cons pe_str (pa_cons (pv 6) pa_nil)))))
        pss_nil)
        (pss_cons (ps_if (pt_cmpR op_gt (pv 5) (k_fld (K := K) (pv 6) rfl) (nomark _))
        (pss_one (ps_ret (pe_tup (pa_cons pe_str (pa_cons pe_str pa_nil)))))
        pss_nil)
        (pss_cons (ps_fld (pv 6) (pe_call G_shortened (hr.mono (by decide)) (by rfl) d_shortened.g d_shortened.F.kp d_shortened.b .nil pass0 (pa_cons (k_fld (K := K) (pv 6) rfl) (pa_cons (pv 5) pa_nil))) (by rfl))
        (pss_cons (ps_fld (pv 6) (pv 5) (by rfl))
        (pss_one (ps_ret (pe_glob (v := .ref A_.DONE) (by rfl) T.c_DONE rfl))))))))), ?_⟩
      obtain ⟨p, us, rfl, np, hpa, du⟩ := DU.tupAt hv
      obtain ⟨v1, v2, v3, rfl, k1, k2, k3⟩ := DUA.tri du
      have e3 := DU.intAt k3
      subst e3
      refine q_un3 (z := z) hz np hpa (ev_is rfl) fun H1 r1 => ?_
      have hc1 := hc.go r1
      refine q_set (z := z) (i := 6) (φ := Is (outV (filS (some 119) N fo user xs co.top))) r1.dr (ev_call (ea_cons (φ := Is (.ref c)) (ev_is rfl) fun _ H2 r2 _ => ea_cons (φ := Is (.str user)) (ev_is rfl) fun _ H3 r3 _ => ea_cons (φ := Dd z (paS xs)) (ev_var rfl fun H' w => (k2.w (r1.tr (r2.tr r3)).w).w w) fun _ H4 r4 _ => ea_cons (φ := Is (.str ⟨#[119]⟩)) ev_k fun _ _ _ _ => ea_nil) fun vs H2 r2 ⟨a1, s1, e1, f1, a2, s2, e2, f2, a3, s3, e3, f3, a4, s4, e4, f4, e5⟩ Q2 k => by
        have g1 : a1 = .ref c := f1
        have g2 : a2 = .str user := f2
        have g4 : a4 = .str ⟨#[119]⟩ := f4
        exact ⟨z, c, co, fo, ws, N, user, a3, xs, some 119, by rw [e1, e2, e3, e4, e5, g1, g2, g4]; rfl, r2.dr, (hc1.go r2).ca, f3, fun H' r' => k _ H' r' fun _ _ => rfl⟩) fun v6 H2 r2 f2 => ?_
      have e6 := f2 H2 .refl
      subst e6
      have r12 := r1.tr r2
      have hc2 := hc.go r12
      have okb : ∀ b, filS (some 119) N fo user xs co.top = .inr b → ∃ m, N b = some m ∧ m.nm = none := fun b e => by
        unfold filS at e
        cases eg : goN N fo user xs co.top with
        | inl wd => rw [eg] at e; cases e
        | inr a =>
          obtain ⟨m, hm⟩ := goN_node hc.ca.ht.ok _ _ a hc.ca.n0 eg
          simp only [eg] at e
          unfold filN at e
          simp only [hm] at e
          split at e
          · cases e
          · rename_i hs
            unfold letN at e
            simp only [hm] at e
            split at e
            · have : a = b := Sum.inr.inj e
              subst this
              exact ⟨m, hm, by cases e2 : m.nm <;> simp_all⟩
            · cases e
      refine q_if (z := z) r2.dr (et_B (ev_isS T.N T.KD hc2.ca.ht (fun b e => let ⟨m, hm, _⟩ := okb b e; ⟨m, hm⟩) (ev_is rfl))) (fun hb H3 r3 => ?_) (fun hb H3 r3 => ?_)
      · cases ep : filS (some 119) N fo user xs co.top with
        | inr b => rw [ep] at hb; cases hb
        | inl wd => exact s_ans q hc (r12.tr r3) rfl (.cutNo ep) (ev_no fun _ _ => ev_is rfl)
      cases ep : filS (some 119) N fo user xs co.top with
      | inl wd => rw [ep] at hb; cases hb
      | inr b =>
        obtain ⟨nb, hnb, hbn⟩ := okb b ep
        have r13 := r12.tr r3
        have hc3 := hc.go r13
        obtain ⟨ib, hb3, hrt3⟩ := hc3.ca.ht.at_ b nb hnb
        have fl : ∀ {H' : Hp}, NodeAt cs.Folder cs.File H' b nb → H' b = some (.ins cs.File nb.dx nb.flds) := fun {H'} h => by
          have h1 : H' b = some (.ins (if nb.nm.isSome then cs.Folder else cs.File) nb.dx nb.flds) := h
          rw [hbn] at h1
          exact h1
        refine q_if (z := z) (b := decide (nb.size < n)) r3.dr (et_test (ev_i0 (g := fun i j => .bl (decide (j < i))) (ev_is rfl) (ev_fld ib (fl hb3) T.N.cL (T.N.nL _ (by simp)) (nd_size nb hbn) (ev_is rfl)))) (fun hb2 H4 r4 => ?_) (fun hb2 H4 r4 => ?_)
        · exact s_ans q hc (r13.tr r4) rfl (.cutPlace ep hnb (of_decide_eq_true hb2)) (ev_no fun _ _ => ev_k)
        have hle : n ≤ nb.size := by
          have := of_decide_eq_false hb2
          omega
        have r14 := r13.tr r4
        have hc4 := hc.go r14
        obtain ⟨_, hb4, hrt4⟩ := hc4.ca.ht.at_ b nb hnb
        have hpa4 := hc4.ca.ht.pa b nb hnb hbn
        refine q_fldE (z := z) (a := b) (C := cs.File) (dx := nb.dx) (fs := nb.flds) (φ := Dd z (paD (shr nb.ps n))) r4.dr (ev_call (ea_cons (φ := Dd z (paD nb.ps)) ((ev_fld ib (fl hb4) T.N.cL (T.N.nL _ (by simp)) (nd_parts nb hbn) (ev_is rfl)).imp fun v H' w e => by rw [show v = nb.parts from e]; exact hpa4.w w) fun _ H5 r5 _ => ea_cons (φ := Is (.int n)) (ev_is rfl) fun _ _ _ _ => ea_nil) fun vs H5 r5 ⟨a1, s1, e1, f1, a2, s2, e2, f2, e3⟩ Q5 k => by
          have g2 : a2 = .int n := f2
          exact ⟨z, _, r5.dr, ⟨a1, nb.ps, n, by rw [e1, e2, e3, g2]; rfl, f1, hpre b nb hnb, rfl⟩, fun v' H' r' h' => k v' H' r' fun H6 w6 => h' H6 w6⟩) rfl ib (fl hb4) T.N.cL (T.N.nL _ (by simp)) (flds_len nb) fun v5 H5 r5 f5 => ?_
        have hv5 := f5 H5 .refl
        rw [put_parts nb hbn]
        let n1 : Nd := { nb with parts := v5 }
        have r15 := r14.tr r5
        have hc5 := hc.go r15
        obtain ⟨_, hb5, hrt5⟩ := hc5.ca.ht.at_ b nb hnb
        have s6 : Step (ownP c N) z H5 z (upd H5 b (.ins cs.File nb.dx n1.flds)) := Step.upd r15.dr hc5.su (.inr (.inl ⟨nb, hnb⟩)) (fl hb5) ib
        refine q_fldVV (C := cs.File) rfl rfl (upd_same (a := b)) T.N.cL (T.N.nL _ (by simp)) (flds_len n1) ?_
        rw [put_size n1 hbn, upd_upd]
        let n2 : Nd := { nb with parts := v5, ps := shr nb.ps n, size := n }
        have hc7 := hc5.setN (n' := n2) hnb rfl rfl hrt5 (hc5.ca.ht.op b nb hnb) fun e => hv5
        have eif : (if n2.nm.isSome then cs.Folder else cs.File) = cs.File := by
          show (if nb.nm.isSome then cs.Folder else cs.File) = cs.File
          rw [hbn]
          rfl
        rw [eif] at hc7
        have s7 : Step (ownP c N) z H z (upd H5 b (.ins cs.File n2.dx n2.flds)) := Step.tr hz (Step.of_R hc.su r15) (Step.upd r15.dr hc5.su (.inr (.inl ⟨nb, hnb⟩)) (fl hb5) ib) fun p h => .inl h
        exact s_ansS q hz s7 hc7 rfl (Res.cut (pv := v5) ep hnb hle) (fun p h => .inl (own_set (na := nb) (n := n2) hnb rfl p h)) (ev_cst (xs := ["done"]) T.q_DONE))]
  intro b q h; simpa using FB.pinF b h
  eq_refl
end
end K05
set_option Elab.async false
set_option linter.all false
set_option maxRecDepth 100000
set_option maxHeartbeats 4000000
namespace K05
open PySem PySem.Spec PyProof.Rows L2 FB RZ
section
variable {P : Program} {w : World} {K : PySem.W.Frag} {mg : Str → Option Value} {base : Heap} {cs : Cs} {A_ : As}
/-- the users of a group -/
def spUs : Sp := fun vs H Q _ => ∃ (z : Zn) (v : V) (fo : Fo) (g : Str), vs = [v, .str g] ∧ z.R H H ∧ DU z.U H v (grpD fo) ∧ ∀ v' H', z.R H H' → (∀ H'', z.W H' H'' → Tup z (fun ws _ => ws = (usF fo g).map V.str) v' H'') → Q v' H'
theorem row_at {U : Addr → Prop} {H : Hp} {x : V} {p : Str × List Str} (h : DU U H x (rowG p)) : ∃ a b, x = .ref a ∧ ¬ U a ∧ H a = some (.tup [.str p.1, .ref b]) ∧ ¬ U b ∧ H b = some (.tup (p.2.map V.str)) := by
  refine' @FB.also _ _ ?_ ?_ ?_; rotate_left
  · intro wit__; simp only [↓FB.viaW wit__ (by
      clear wit__
      obtain ⟨a, vs, rfl, nu, ha, hds⟩ := h.tupAt
      obtain ⟨va, vb, rfl, k1, k2⟩ := DUA.two hds
      obtain ⟨b, ws, rfl, nb, hb, hus⟩ := k2.tupAt
      have e1 := DU.strAt k1
      subst e1
      have e2 := strs_at hus fun d hd => by
        obtain ⟨y, _, rfl⟩ := List.mem_map.mp hd
        rfl
      refine ⟨a, b, rfl, nu, ha, nb, ?_⟩
      rw [hb, e2, List.map_map, List.map_map]
      rfl)]
  intro b q h; simpa using FB.pinF b h
  eq_refl
theorem ok_users_of (T : Tx P K mg cs A_) (d__users_of : Df K mg "_users_of" s__users_of ["groups", "group"]) : FnOk P w K mg base CX0 1 d__users_of.f d__users_of.fd ["groups", "group"] spUs := by
  refine' @FB.also _ _ ?_ ?_ ?_; rotate_left
  · intro wit__; simp only [↓FB.viaW wit__ (by
      clear wit__
      refine d__users_of.F.ok sc__users_of (fun vs H Q E ⟨_, _, _, _, e, _⟩ => by rw [e]; rfl) (fun cdv A outer s H vs Q E hr h => ?_)
      obtain ⟨z, v, fo, g, rfl, hz, hv, q⟩ := h
      refine ⟨_, (pss_cons (ps_for PassesOwn.never rfl (k_pit (K := K) (pi_tup (pv 0))) (k_pgt (K := K) (n := 2) (pgs_cons (pg_name (i := 2) sc__users_of.nd rfl (Or.inl rfl)) (pgs_cons (pg_name (i := 3) sc__users_of.nd rfl (Or.inl rfl)) pgs_nil)))
        (pss_one (ps_if (pt_cmpR op_eq (pv 2) (pv 1) (nomark _))
        (pss_one (ps_ret (pv 3)))
        pss_nil)))
        (pss_one (ps_ret (pe_tup pa_nil)))), ?_⟩
      obtain ⟨a, vs, rfl, nu, ha, hds⟩ := hv.tupAt
      have hlen := hds.len
      rw [List.length_map] at hlen
      refine q_forTG (z := z) (xs := vs) hz (ev_tupv rfl nu ha) fun H1 r1 => ⟨fun i σ' H' => z.R H1 H' ∧ ∃ o o2, σ' = [some (.ref a), some (.str g), o, o2] ∧ usF fo g = usF (fo.drop i) g,
        ⟨r1.dr, none, none, rfl, rfl⟩, fun i σ' H' hP => hP.1.w, fun i x σ' H' hx' hP => ?_, fun σ' H' hP => ?_⟩
      · obtain ⟨r4, o, o2, rfl, eg⟩ := hP
        obtain ⟨d, hd, dv⟩ := ((hds.w r1.w).w r4.w).at hx'
        rw [List.getElem?_map] at hd
        obtain ⟨p, hp, rfl⟩ := Option.map_eq_some_iff.mp hd
        rw [drop_at hp] at eg
        have eg' : usF fo g = if p.1 = g then p.2 else usF (fo.drop (i + 1)) g := eg
        obtain ⟨pa, pb, rfl, na, hpa, nb, hpb⟩ := row_at dv
        refine ⟨pa, [.str p.1, .ref pb], rfl, .inl (.inl hpa), rfl, .str p.1, [.ref pb], rfl, .ref pb, [], rfl, rfl, ?_⟩
        refine s_if (z := z) r4.dr (et_test (ev_eq (ev_is rfl) (ev_is rfl) rfl)) (fun hb H5 r5 => ?_) (fun hb H5 r5 => ?_)
        · refine s_ret (z := z) (φ := Tup z fun ws _ => ws = p.2.map V.str) r5.dr (ev_tupv rfl nb (r5.w pb _ nb hpb)) fun v' H6 r6 f => ?_
          have e : p.1 = g := by
            have := of_decide_eq_true hb
            injection this
          rw [if_pos e] at eg'
          exact q v' H6 (((r1.tr r4).tr r5).tr r6) fun H7 w7 => by rw [eg']; exact f H7 w7
        · have e : ¬ p.1 = g := fun e => by
            have := of_decide_eq_false hb
            exact this (by rw [e])
          rw [if_neg e] at eg'
          exact ⟨r4.tr r5, _, _, rfl, eg'⟩
      · obtain ⟨r4, o, o2, rfl, eg⟩ := hP
        rw [hlen, List.drop_length] at eg
        refine s_ret (z := z) (φ := Tup z fun ws _ => ws = []) r4.dr (ev_tup ea_nil fun vs H' e => by rw [e]; exact Nat.zero_le _) fun v' H6 r6 f => ?_
        exact q v' H6 ((r1.tr r4).tr r6) fun H7 w7 => by rw [eg]; exact f H7 w7)]
  intro b q h; simpa using FB.pinF b h
  eq_refl
def spMay : Sp := fun vs H Q _ => ∃ (z : Zn) (v r : V) (fo : Fo) (user owner group a b d : Str) (c : Nat), vs = [v, .str user, .str ⟨#[c]⟩, .str owner, .str group, r] ∧ z.R H H ∧ DU z.U H v (grpD fo) ∧ DU z.U H r (.tuple [.str a, .str b, .str d]) ∧
  isGroupsD (grpD fo) = true ∧ Bd 3 (grpD fo) ∧ isW user = true ∧ (c = 114 ∨ c = 119) ∧ isW owner = true ∧ isW group = true ∧ isRightsD (.tuple [.str a, .str b, .str d]) = true ∧ Bd 3 (.tuple [.str a, .str b, .str d]) ∧ ∀ H', z.R H H' → Q (.bl (mayB fo user c owner group a b d)) H'
theorem isW_sl {x : Str} (h : isW x = true) : Sl (.str x) := by
  refine' @FB.also _ _ ?_ ?_ ?_; rotate_left
  · intro wit__; simp only [↓FB.viaW wit__ (by
      clear wit__
      exact fun y e => by
        cases e
        unfold isW at h
        rw [Bool.and_eq_true, Bool.and_eq_true] at h
        have := of_decide_eq_true h.1.2
        omega)]
  intro b q h; simpa using FB.pinF b h
  eq_refl
theorem ok_may (T : Tx P K mg cs A_) (d_may : Dk K mg "may" s_may) (d_is_groups : Df K mg "is_groups" s_is_groups ["thing"]) (d_is_word : Df K mg "is_word" s_is_word ["thing"]) (d_is_rights : Df K mg "is_rights" s_is_rights ["thing"]) (d__users_of : Df K mg "_users_of" s__users_of ["groups", "group"])
    (G_is_groups : FnOk P w K mg base CX0 2 d_is_groups.f d_is_groups.fd ["thing"] (spLook (Bd 3) isGroupsD)) (G_is_word : FnOk P w K mg base CX0 1 d_is_word.f d_is_word.fd ["thing"] (spLook Sl isWordD)) (G_is_rights : FnOk P w K mg base CX0 2 d_is_rights.f d_is_rights.fd ["thing"] (spLook (Bd 3) isRightsD))
    (G__users_of : FnOk P w K mg base CX0 1 d__users_of.f d__users_of.fd ["groups", "group"] spUs) : FnOk P w K mg base CX0 3 d_may.f d_may.fd ["groups", "user", "sign", "owner", "group", "rights"] spMay := by
  refine' @FB.also _ _ ?_ ?_ ?_; rotate_left
  · intro wit__; simp only [↓FB.viaW wit__ (by
      clear wit__
      refine d_may.F.ok sc_may (fun vs H Q E ⟨_, _, _, _, _, _, _, _, _, _, _, e, _⟩ => by rw [e]; rfl) (fun cdv A outer s H vs Q E hr h => ?_)
      obtain ⟨z, v, r, fo, user, owner, group, a, b, d, c, rfl, hz, hv, hrv, hG, hGb, hU, hc, hO, hGr, hRr, hRb, q⟩ := h
      refine ⟨_, (pss_cons (ps_if (pt_not (pt_val (pe_call G_is_groups (hr.mono (by decide)) (by rfl) d_is_groups.g d_is_groups.F.kp d_is_groups.b .nil pass0 (pa_cons (pv 0) pa_nil))))
        (pss_one ps_dead)
        pss_nil)
        (pss_cons (ps_if (pt_not (pt_val (pe_call G_is_word (hr.mono (by decide)) (by rfl) d_is_word.g d_is_word.F.kp d_is_word.b .nil pass0 (pa_cons (pv 1) pa_nil))))
        (pss_one ps_dead)
        pss_nil)
        (pss_cons (ps_if (PW.pt (pw_or (pt_not (pt_val (pe_callB (k_isi (K := K)) (by rfl) T.isinstance (by decide +kernel) (pa_cons (pv 2) (pa_cons (pe_bltn (v := .ty "str") (by rfl) T.str (by decide +kernel) rfl) pa_nil))))) (pw_or1 (pt_cmpR (k_notIn (K := K)) (pv 2) (pe_glob (v := .ref A_.SIGNS) (by rfl) T.c_SIGNS rfl) (by rfl)))))
        (pss_one ps_dead)
        pss_nil)
        (pss_cons (ps_if (pt_not (pt_val (pe_call G_is_word (hr.mono (by decide)) (by rfl) d_is_word.g d_is_word.F.kp d_is_word.b .nil pass0 (pa_cons (pv 3) pa_nil))))
        (pss_one ps_dead)
        pss_nil)
        (pss_cons (ps_if (pt_not (pt_val (pe_call G_is_word (hr.mono (by decide)) (by rfl) d_is_word.g d_is_word.F.kp d_is_word.b .nil pass0 (pa_cons (pv 4) pa_nil))))
        (pss_one ps_dead)
        pss_nil)
        (pss_cons (ps_if (pt_not (pt_val (pe_call G_is_rights (hr.mono (by decide)) (by rfl) d_is_rights.g d_is_rights.F.kp d_is_rights.b .nil pass0 (pa_cons (pv 5) pa_nil))))
        (pss_one ps_dead)
        pss_nil)
        (pss_cons (ps_if (pt_cmpR op_eq (pv 1) (pe_glob (v := .str "root") (by rfl) T.c_ROOT ⟨_, rfl⟩) (nomark _))
        (pss_one (ps_ret pe_bl))
        pss_nil)
        (pss_cons (ps_asg (pv 5) (k_pgt (K := K) (n := 3) (pgs_cons (pg_name (i := 6) sc_may.nd rfl (Or.inl rfl)) (pgs_cons (pg_name (i := 7) sc_may.nd rfl (Or.inl rfl)) (pgs_cons (pg_name (i := 8) sc_may.nd rfl (Or.inl rfl)) pgs_nil)))))
        (pss_cons (ps_if (pt_cmpR op_eq (pv 1) (pv 3) (nomark _))
        (pss_one (ps_ret (pe_cmpR op_in_sign (pv 2) (pv 6) (by rfl))))
        pss_nil)
        (pss_cons (ps_if (pt_cmpR (k_in (K := K)) (pv 1) (pe_call G__users_of (hr.mono (by decide)) (by rfl) d__users_of.g d__users_of.F.kp d__users_of.b .nil pass0 (pa_cons (pv 0) (pa_cons (pv 4) pa_nil))) (by rfl))
        (pss_one (ps_ret (pe_cmpR op_in_sign (pv 2) (pv 7) (by rfl))))
        pss_nil)
        (pss_one (ps_ret (pe_cmpR op_in_sign (pv 2) (pv 8) (by rfl)))))))))))))), ?_⟩
      refine q_if (z := z) (b := false) hz (et_to (et_not (et_B (ev_look (ok := Bd 3) (f := isGroupsD) (ev_var rfl fun H' w => hv.w w) hGb))) (by rw [hG]; rfl)) (fun hb => (by cases hb)) (fun _ H1 r1 => ?_)
      refine q_if (z := z) (b := false) r1.dr (et_to (et_not (et_B (ev_look (ok := Sl) (f := isWordD) (d := .str user) (ev_var rfl fun H' w => .str user) (isW_sl hU)))) (by rw [show isWordD (.str user) = true from hU]; rfl)) (fun hb => (by cases hb)) (fun _ H2 r2 => ?_)
      have hin : inV (.str ⟨#[c]⟩) [.str "r", .str "w"] = true := by rcases hc with rfl | rfl <;> rfl
      refine q_if (z := z) (b := false) r2.dr (et_to (et_or (et_not (et_B (ev_isi (d := .str ⟨#[c]⟩) (ev_var rfl fun H' w => .str _) (kit_str _)))) fun _ => et_test (ev_notIn (ev_is rfl) ev_k (fun H1 _ => .inr (T.q_SIGNS H1)) rfl rfl)) (by rw [hin]; rfl)) (fun hb => (by cases hb)) (fun _ H3 r3 => ?_)
      refine q_if (z := z) (b := false) r3.dr (et_to (et_not (et_B (ev_look (ok := Sl) (f := isWordD) (d := .str owner) (ev_var rfl fun H' w => .str owner) (isW_sl hO)))) (by rw [show isWordD (.str owner) = true from hO]; rfl)) (fun hb => (by cases hb)) (fun _ H4 r4 => ?_)
      refine q_if (z := z) (b := false) r4.dr (et_to (et_not (et_B (ev_look (ok := Sl) (f := isWordD) (d := .str group) (ev_var rfl fun H' w => .str group) (isW_sl hGr)))) (by rw [show isWordD (.str group) = true from hGr]; rfl)) (fun hb => (by cases hb)) (fun _ H5 r5 => ?_)
      have r15 := (((r1.tr r2).tr r3).tr r4).tr r5
      refine q_if (z := z) (b := false) r5.dr (et_to (et_not (et_B (ev_look (ok := Bd 3) (f := isRightsD) (ev_var rfl fun H' w => (hrv.w r15.w).w w) hRb))) (by rw [hRr]; rfl)) (fun hb => (by cases hb)) (fun _ H6 r6 => ?_)
      refine q_if (z := z) r6.dr (et_test (ev_eq (ev_is rfl) ev_k rfl)) (fun hb H7 r7 => ?_) (fun hb H7 r7 => ?_)
      · refine s_ret (z := z) r7.dr ev_k fun v' H8 r8 f => ?_
        have e : v' = .bl true := f H8 .refl
        subst e
        have e2 : mayB fo user c owner group a b d = true := by
          have e3 : user = "root" := by
            have := of_decide_eq_true hb
            injection this
          unfold mayB
          rw [if_pos e3]
        rw [← e2]
        exact q H8 (((r15.tr r6).tr r7).tr r8)
      have n0 : ¬ user = "root" := fun e => (of_decide_eq_false hb) (by rw [e])
      have r17 := (r15.tr r6).tr r7
      obtain ⟨pr, rs, rfl, npr, hpr, hrs⟩ := (hrv.w r17.w).tupAt
      obtain ⟨va, vb, vd, rfl, k1, k2, k3⟩ := DUA.three hrs
      have e1 := DU.strAt k1
      have e2 := DU.strAt k2
      have e3 := DU.strAt k3
      subst e1
      subst e2
      subst e3
      refine q_un3 (z := z) r7.dr npr hpr (ev_is rfl) fun H8 r8 => ?_
      refine q_if (z := z) r8.dr (et_test (ev_eq (ev_is rfl) (ev_is rfl) rfl)) (fun hb H9 r9 => ?_) (fun hb H9 r9 => ?_)
      · refine s_ret (z := z) r9.dr (ev_inC (ev_is rfl) (ev_is rfl)) fun v' Ha ra f => ?_
        have e : v' = .bl (inC c a) := f Ha .refl
        subst e
        have e2 : mayB fo user c owner group a b d = inC c a := by
          have e3 : user = owner := by
            have := of_decide_eq_true hb
            injection this
          unfold mayB
          rw [if_neg n0, if_pos e3]
        rw [← e2]
        exact q Ha (((r17.tr r8).tr r9).tr ra)
      have n1 : ¬ user = owner := fun e => (of_decide_eq_false hb) (by rw [e])
      have r19 := (r17.tr r8).tr r9
      have fl : ((usF fo group).map V.str).all flatV = true := by simp [List.all_eq_true, flatV]
      refine q_if (z := z) r9.dr (et_test (ev_inT (xs := (usF fo group).map V.str) (ev_is rfl) (fun Ha ra => ev_call (ea_cons (φ := Dd z (grpD fo)) (ev_var rfl fun H' w => ((hv.w r19.w).w ra.w).w w) fun v' Hb rb _ => ea_is (ev_is rfl) ea_nil) fun us Hb rb ⟨v', rr, e1, hv', e2⟩ Q0 q0 =>
        ⟨z, v', fo, group, by rw [e1, e2]; rfl, rb.dr, hv', fun v'' H' r' f => q0 _ H' r' f⟩) rfl fl)) (fun hb H10 r10 => ?_) (fun hb H10 r10 => ?_)
      · refine s_ret (z := z) r10.dr (ev_inC (ev_is rfl) (ev_is rfl)) fun v' Ha ra f => ?_
        have e : v' = .bl (inC c b) := f Ha .refl
        subst e
        have e2 : mayB fo user c owner group a b d = inC c b := by
          unfold mayB
          rw [if_neg n0, if_neg n1, if_pos hb]
        rw [← e2]
        exact q Ha ((r19.tr r10).tr ra)
      · refine s_ret (z := z) r10.dr (ev_inC (ev_is rfl) (ev_is rfl)) fun v' Ha ra f => ?_
        have e : v' = .bl (inC c d) := f Ha .refl
        subst e
        have e2 : mayB fo user c owner group a b d = inC c d := by
          unfold mayB
          rw [if_neg n0, if_neg n1, if_neg (by rw [hb]; simp)]
        rw [← e2]
        exact q Ha ((r19.tr r10).tr ra))]
  intro b q h; simpa using FB.pinF b h
  eq_refl
theorem cut_ints (ns : List Int) (lo hi : Option Int) : ∃ ms : List Int, cutV (ns.map V.int) lo hi = ms.map V.int := by
  refine' @FB.also _ _ ?_ ?_ ?_; rotate_left
  · intro wit__; simp only [↓FB.viaW wit__ (by
      clear wit__
      unfold cutV
      exact ⟨((ns.drop (HT.sIx (ns.map V.int).length 0 lo)).take (HT.sIx (ns.map V.int).length (ns.map V.int).length hi - HT.sIx (ns.map V.int).length 0 lo)), by rw [List.map_take, List.map_drop]⟩)]
  intro b q h; simpa using FB.pinF b h
  eq_refl
theorem ok_take (T : Tx P K mg cs A_) (d__law_take : Df K mg "_law_take" s__law_take ["_law_purse_here", "_law_many"]) : FnOk P w K mg base CX0 1 d__law_take.f d__law_take.fd ["_law_purse_here", "_law_many"] spTake := by
  refine' @FB.also _ _ ?_ ?_ ?_; rotate_left
  · intro wit__; simp only [↓FB.viaW wit__ (by
      clear wit__
      refine d__law_take.F.ok sc__law_take (fun vs H Q E ⟨_, _, _, e, _⟩ => by rw [e]; rfl) (fun cdv A outer s H vs Q E hr h => ?_)
      obtain ⟨z, u, n, rfl, hz, hu, hn0, hn1, q⟩ := h
      obtain ⟨o, ho, a, b, rfl, ha, hb, hb2⟩ := hz.i1 u _ hu
      refine ⟨_, (pss_cons (ps_if (pt_cmpR op_eq (pe_ix (k_ixl (K := K)) (pv 0) pe_int (fun _ _ => rfl)) pe_int (nomark _))
        (pss_cons (ps_set (i := 2) sc__law_take.nd rfl (.inl rfl) (pe_op op_mod (pe_ix (k_ixl (K := K)) (pv 0) pe_int (fun _ _ => rfl)) (pv 1)))
        (pss_cons (ps_asg (pe_op op_fdivW (pe_ix (k_ixl (K := K)) (pv 0) pe_int (fun _ _ => rfl)) (pv 1)) (pg_sub (pv 0) pe_int set_list))
        (pss_one (ps_ret (pv 2)))))
        pss_nil)
        (pss_cons (ps_asg (pe_op op_add pe_int (pe_op op_mod (pe_op op_add (pe_op op_mul (pe_ix (k_ixl (K := K)) (pv 0) pe_int (fun _ _ => rfl)) pe_int) pe_int) pe_int)) (pg_sub (pv 0) pe_int set_list))
        (pss_one (ps_ret (pe_op op_mod (pe_op op_fdivW (pe_op op_mod (pe_op op_mul (pe_ix (k_ixl (K := K)) (pv 0) pe_int (fun _ _ => rfl)) pe_int) pe_int) pe_int) (pv 1)))))), ?_⟩
      have nu : ¬ z0.U u := fun f => f
      have hn2 : (n : Int) ≤ 1000000 := by omega
      have hn3 : (0 : Int) < (n : Int) := by omega
      have hdv : CDivW a (n : Int) := wide_div (b := 20) hn3 (by rw [Int.natAbs_natCast]; exact Nat.lt_of_le_of_lt hn1 (by decide)) (by decide) (by decide)
      have i0 : ∀ {H' : Hp}, z0.R H H' → Ev z0 (tOp (rIxL K) (tVar 0) (tC (.int 0))) (start ["_law_purse_here", "_law_many", "_law_found"] [.ref u, .int (n : Int)]) H' (Is (.int a)) := fun r => ev_ixL (i := 0) (ev_is rfl) ev_k nu (z0g r u _ ho) rfl
      have i1 : ∀ {H' : Hp}, z0.R H H' → Ev z0 (tOp (rIxL K) (tVar 0) (tC (.int 1))) (start ["_law_purse_here", "_law_many", "_law_found"] [.ref u, .int (n : Int)]) H' (Is (.int b)) := fun r => ev_ixL (i := 1) (ev_is rfl) ev_k nu (z0g r u _ ho) rfl
      refine q_if (z := z0) z0r (et_test (ev_eq (i1 z0r) ev_k rfl)) (fun hc H1 r1 => ?_) (fun hc H1 r1 => ?_)
      · refine q_set (z := z0) z0r (ev_i (i0 r1) (ev_is rfl) hn3) fun v1 H2 r2 f2 => ?_
        have e2 := f2 H2 .refl
        subst e2
        have r12 := r1.tr r2
        refine q_sub (z := z0) (j := 0) (p := u) z0r (ev_i (ev_ixL (i := 0) (p := u) (ev_is rfl) ev_k nu (z0g r12 u _ ho) rfl) (ev_is rfl) hdv) (ev_is rfl) ev_k nu (z0g r12 u _ ho) (show 0 < 2 by decide) fun H3 r3 => ?_
        have r13 := r12.tr r3
        have rz : z.R H (upd H3 u (.lst ([V.int a, V.int b].set 0 (V.int (a / (n : Int)))))) := (Zn.R.z0 r13 hz).wr hu ⟨a / n, b, rfl, Int.ediv_nonneg ha (by omega), hb, hb2⟩
        refine s_ret (z := z0) z0r (ev_is rfl) fun v4 H4 r4 f4 => ?_
        have e4 := f4 H4 .refl
        subst e4
        have h1 : 0 ≤ a % (n : Int) := Int.emod_nonneg _ (by omega)
        have h2 : a % (n : Int) < n := Int.emod_lt_of_pos _ hn3
        have e5 : a % (n : Int) = ((a % (n : Int)).toNat : Int) := by omega
        show Q (.int (a % (n : Int))) H4
        rw [e5]
        exact q _ H4 (by omega) (rz.tr (Zn.R.z0 r4 rz.dr))
      · have hm1 : CMul b 39373 := .inl ⟨by omega, by omega⟩
        refine q_sub (z := z0) (j := 1) (p := u) (v := .int (1 + (b * 39373 + 7919) % 2147483587)) z0r (ev_i0 (g := fun i j => .int (i + j)) ev_k (ev_i (C := fun _ j => 0 < j) (g := fun i j => .int (i % j)) (ev_i0 (g := fun i j => .int (i + j)) (ev_i (C := CMul) (g := fun i j => .int (i * j)) (i1 r1) ev_k hm1) ev_k) ev_k (by decide))) (ev_is rfl) ev_k nu (z0g r1 u _ ho) (show 1 < 2 by decide) fun H3 r3 => ?_
        have r13 := r1.tr r3
        have g1 : 0 ≤ (b * 39373 + 7919) % 2147483587 := Int.emod_nonneg _ (by decide)
        have g2 : (b * 39373 + 7919) % 2147483587 < 2147483587 := Int.emod_lt_of_pos _ (by decide)
        generalize hcc : 1 + (b * 39373 + 7919) % 2147483587 = c at *
        have rz : z.R H (upd H3 u (.lst ([V.int a, V.int b].set 1 (V.int c)))) := (Zn.R.z0 r13 hz).wr hu ⟨a, c, rfl, ha, by omega, by omega⟩
        have hm2 : CMul c 30269 := .inl ⟨by omega, by omega⟩
        refine s_ret (z := z0) z0r (ev_i (C := fun _ j => 0 < j) (g := fun i j => .int (i % j)) (ev_i (C := CDivW) (g := fun i j => .int (i / j)) (ev_i (C := fun _ j => 0 < j) (g := fun i j => .int (i % j)) (ev_i (C := CMul) (g := fun i j => .int (i * j)) (ev_ixL (i := 1) (p := u) (ev_is rfl) ev_k nu upd_same rfl) ev_k hm2) ev_k (by decide)) ev_k (wide_div (b := 20) (by decide) (by decide) (by decide) (by decide))) (ev_is rfl) hn3) fun v4 H4 r4 f4 => ?_
        have e4 := f4 H4 .refl
        subst e4
        generalize c * 30269 % 2147483563 / 11 = d
        have h1 : 0 ≤ d % (n : Int) := Int.emod_nonneg _ (by omega)
        have h2 : d % (n : Int) < n := Int.emod_lt_of_pos _ hn3
        have e5 : d % (n : Int) = ((d % (n : Int)).toNat : Int) := by omega
        rw [e5]
        exact q _ H4 (by omega) (rz.tr (Zn.R.z0 r4 rz.dr)))]
  intro b q h; simpa using FB.pinF b h
  eq_refl
theorem ok_purse (T : Tx P K mg cs A_) (d__law_purse : Df K mg "_law_purse" s__law_purse ["_law_script", "_law_k"]) : FnOk P w K mg base CX0 1 d__law_purse.f d__law_purse.fd ["_law_script", "_law_k"] (spPurse K) := by
  refine' @FB.also _ _ ?_ ?_ ?_; rotate_left
  · intro wit__; simp only [↓FB.viaW wit__ (by
      clear wit__
      refine d__law_purse.F.ok sc__law_purse (fun vs H Q E ⟨_, _, _, _, e, _⟩ => by rw [e]; rfl) (fun cdv A outer s H vs Q E hr h => ?_)
      obtain ⟨z, a, ns, k, rfl, hz, hS, hl, hk, q⟩ := h
      refine ⟨_, (pss_cons (ps_set (i := 2) sc__law_purse.nd rfl (.inl rfl) (pe_ix (k_ixl (K := K)) (pe_op op_cat (pe_slice (k_sll (K := K)) (pv 0) (po_some (pv 1)) (po_some (pe_op op_add (pv 1) pe_int))) (pe_lst (pa_cons pe_int pa_nil))) pe_int (fun _ _ => rfl)))
        (pss_cons (ps_if (PW.pt (pw_or (pt_cmpR op_ge (pv 2) (pe_op op_pow pe_int pe_int) (nomark _)) (pw_or1 (pt_cmpR op_lt (pv 2) pe_int (nomark _)))))
        (pss_one (ps_ret (pe_lst (pa_cons (pe_callB (call_max2 rfl) (by rfl) T.max (by decide +kernel) (pa_cons (pv 2) (pa_cons (pe_op op_sub (pe_un un_neg pe_int) (pv 2)) pa_nil))) (pa_cons pe_int pa_nil)))))
        pss_nil)
        (pss_one (ps_ret (pe_lst (pa_cons pe_int (pa_cons (pe_op op_add pe_int (pe_op op_mod (pe_op op_add (pe_op op_mul (pv 2) pe_int) (pe_op op_mul (pe_op op_mul (pe_op op_add (pv 1) pe_int) pe_int) (pe_op op_add (pv 1) pe_int))) pe_int)) pa_nil))))))), ?_⟩
      have hSz : ∀ {H' : Hp}, z0.W H H' → SqL K H' a (ns.map V.int) := fun w => by
        rcases hS with (h | ⟨o, h⟩) | h
        · exact .inl (.inl (z0w w a _ h))
        · exact .inl (.inr ⟨o, z0w w a _ h⟩)
        · exact .inr h
      obtain ⟨ms, hms⟩ := cut_ints ns (some (k : Int)) (some ((k : Int) + 1))
      have hml : ms.length ≤ 1000 := by
        have h1 := congrArg List.length hms
        rw [List.length_map] at h1
        have h2 := cutV_length (ns.map V.int) (some (k : Int)) (some ((k : Int) + 1))
        rw [List.length_map] at h2
        omega
      have hcell : Ev z0 (tOp (rIxL K) (tOp rCat (L2.tSl (rSlL K) (tVar 0) (tPart (tVar 1)) (tPart (tOp (rI0 fun i j => .int (i + j)) (tVar 1) (tC (.int 1))))) (tLst (tCons (tC (.int 0)) tNil))) (tC (.int 0)))
          (start ["_law_script", "_law_k", "_law_cell"] [.ref a, .int (k : Int)]) H (Is (.int ((ms ++ [0]).getD 0 0))) := by
        refine ev_ixl (Φ := fun ws _ => ws = (ms ++ [0]).map V.int) (ψ := Is (.int 0)) ?_ (fun _ H1 r => ev_k) fun ws y H1 r e1 e2 => ⟨0, V.int ((ms ++ [0]).getD 0 0), e2, ?_, by intro _ _; exact rfl⟩
        · refine ev_op (φ := Lst z0 fun ws _ => ws = ms.map V.int) (ψ := Lst z0 fun ws _ => ws = [V.int 0]) ?_ (fun x H1 r fx => ?_) fun x y H1 r ⟨p, ws, e1, n1, h1, e2⟩ ⟨p', ws', e1', n1', h1', e2'⟩ => ?_
          · refine ev_sl (φ := Is (.ref a)) (ev_is rfl) (eo_some (ev_is rfl)) (eo_some (ev_i0 (g := fun i j => .int (i + j)) (ev_is rfl) ev_k)) fun x H1 r e Q0 q0 => ⟨a, _, e, hSz r.w, fun p hp => q0 _ _ (r.dr.new hp) fun H3 w => ⟨p, _, rfl, fun f => f, w p _ (fun f => f) upd_same, hms⟩⟩
          · exact ev_lst (ea_is ev_k ea_nil) fun vs H' e => by rw [e]; exact (show 1 ≤ 100000 by decide)
          · intro Q0 q0
            subst e2
            subst e2'
            exact ⟨p, p', _, _, e1, e1', h1, h1', by rw [List.length_map]; exact Nat.le_trans (show ms.length + 1 ≤ 2000 by omega) (by decide), fun d hd => q0 _ _ (r.dr.new hd) fun H3 w => ⟨d, _, rfl, fun f => f, w d _ (fun f => f) upd_same, by rw [List.map_append]; rfl⟩⟩
        · rw [e1]
          cases ms with
          | nil => rfl
          | cons x r => rfl
      generalize (ms ++ [0]).getD 0 0 = cell at hcell
      refine q_set (z := z0) z0r hcell fun v1 H1 r1 f1 => ?_
      have e1 := f1 H1 .refl
      subst e1
      refine q_if (z := z0) z0r (et_or (et_test (ev_i0 (g := fun i j => .bl (decide (j ≤ i))) (ev_is rfl) (ev_i (C := CPow) (g := fun i j => .int (i ^ j.toNat)) ev_k ev_k ⟨by decide, by decide, by decide⟩))) fun _ => et_test (ev_i0 (g := fun i j => .bl (decide (i < j))) (ev_is rfl) ev_k)) (fun hc H2 r2 => ?_) (fun hc H2 r2 => ?_)
      · have r02 := r1.tr r2
        have hz2 := zfr r02
        refine s_ret (z := zf H) (φ := Lst (zf H) fun ws _ => ws = [V.int (if -1 - cell > cell then -1 - cell else cell), V.int 0]) hz2 ?_ fun v3 H3 r3 f3 => ?_
        · refine ev_lst (ea_is ?_ (ea_is ev_k ea_nil)) fun vs H' e => by rw [e]; exact (show 2 ≤ 100000 by decide)
          exact ev_cb (ea_is (v := .int cell) (ev_is rfl) (ea_is (v := .int (-1 - cell)) (ev_i0 (g := fun i j => .int (i - j)) (ev_un (φ := Is (.int 1)) ev_k fun x H' r e Q0 q0 => ⟨1, e, q0 _ _ r.dr fun _ _ => rfl⟩) (ev_is rfl)) ea_nil)) fun vs H' r e Q0 q0 => ⟨cell, -1 - cell, e, q0 _ _ r.dr fun _ _ => rfl⟩
        · obtain ⟨p, ws, rfl, hn, hp, rfl⟩ := f3 H3 .refl
          have hn0 : H p = none := Classical.byContradiction hn
          refine q p _ H3 (Zn.R.z0 (r02.tr (zf0 r3)) hz) hn0 (hz.nu hn0) hp ⟨_, 0, rfl, ?_, by decide, by decide⟩
          simp only [Bool.or_eq_true, decide_eq_true_eq] at hc
          have h18 : (10 : Int) ^ (18 : Int).toNat = 1000000000000000000 := by decide
          rw [h18] at hc
          split <;> omega
      · have r02 := r1.tr r2
        have hz2 := zfr r02
        simp only [Bool.or_eq_false_iff, decide_eq_false_iff_not] at hc
        have h18 : (10 : Int) ^ (18 : Int).toNat = 1000000000000000000 := by decide
        rw [h18] at hc
        have hk2 : (k : Int) ≤ 1000 := by omega
        refine s_ret (z := zf H) (φ := Lst (zf H) fun ws _ => ws = [V.int 0, V.int (1 + (cell * 48271 + ((k : Int) + 1) * 69621 * ((k : Int) + 7)) % 2147483629)]) hz2 ?_ fun v3 H3 r3 f3 => ?_
        · refine ev_lst (ea_is ev_k (ea_is ?_ ea_nil)) fun vs H' e => by rw [e]; exact (show 2 ≤ 100000 by decide)
          have c1 : CMul cell 48271 := .inr ⟨by decide, by decide⟩
          have c2 : CMul ((k : Int) + 1) 69621 := .inr ⟨by decide, by decide⟩
          have c3 : CMul (((k : Int) + 1) * 69621) ((k : Int) + 7) := .inr ⟨by omega, by omega⟩
          exact ev_i0 (g := fun i j => .int (i + j)) ev_k (ev_i (C := fun _ j => 0 < j) (g := fun i j => .int (i % j)) (ev_i0 (g := fun i j => .int (i + j)) (ev_i (C := CMul) (g := fun i j => .int (i * j)) (ev_is rfl) ev_k c1)
            (ev_i (C := CMul) (g := fun i j => .int (i * j)) (ev_i (C := CMul) (g := fun i j => .int (i * j)) (ev_i0 (g := fun i j => .int (i + j)) (ev_is rfl) ev_k) ev_k c2) (ev_i0 (g := fun i j => .int (i + j)) (ev_is rfl) ev_k) c3)) ev_k (by decide))
        · obtain ⟨p, ws, rfl, hn, hp, rfl⟩ := f3 H3 .refl
          have hn0 : H p = none := Classical.byContradiction hn
          have g1 := Int.emod_nonneg (cell * 48271 + ((k : Int) + 1) * 69621 * ((k : Int) + 7)) (show (2147483629 : Int) ≠ 0 by decide)
          have g2 := Int.emod_lt_of_pos (cell * 48271 + ((k : Int) + 1) * 69621 * ((k : Int) + 7)) (show (0 : Int) < 2147483629 by decide)
          generalize (cell * 48271 + ((k : Int) + 1) * 69621 * ((k : Int) + 7)) % 2147483629 = m at *
          exact q p _ H3 (Zn.R.z0 (r02.tr (zf0 r3)) hz) hn0 (hz.nu hn0) hp ⟨0, _, rfl, by decide, by omega, by omega⟩)]
  intro b q h; simpa using FB.pinF b h
  eq_refl
def stems4 : List Str := ["", "ab", "rooo", "annann"]
def StemOk (x : Str) : Prop := x.length ≤ 6 ∧ x.length ≠ 3 ∧ x.cps.toList.all low = true
theorem stems_ok : ∀ x ∈ stems4, StemOk x := by
  refine' @FB.also _ _ ?_ ?_ ?_; rotate_left
  · intro wit__; simp only [↓FB.viaW wit__ (by
      clear wit__
      intro x hx
      simp only [stems4, List.mem_cons, List.not_mem_nil, or_false] at hx
      rcases hx with rfl | rfl | rfl | rfl <;> exact ⟨by decide +kernel, by decide +kernel, by decide +kernel⟩)]
  intro b q h; simpa using FB.pinF b h
  eq_refl
def letter (j : Nat) : Str := ⟨#[97 + j]⟩
def pp (x : Str) (a i : Nat) : Str := x ++ letter ((a + 3 * i) % 26)
theorem app_list (x y : Str) : (x ++ y).cps.toList = x.cps.toList ++ y.cps.toList := by
  refine' @FB.also _ _ ?_ ?_ ?_; rotate_left
  · intro wit__; simp only [↓FB.viaW wit__ (by
      clear wit__
      show (x.cps ++ y.cps).toList = _
      rw [Array.toList_append])]
  intro b q h; simpa using FB.pinF b h
  eq_refl
theorem len_list (x : Str) : x.cps.toList.length = x.length := by simp [Str.length]
theorem pp_len (x : Str) (a i : Nat) : (pp x a i).length = x.length + 1 := by
  refine' @FB.also _ _ ?_ ?_ ?_; rotate_left
  · intro wit__; simp only [↓FB.viaW wit__ (by
      clear wit__
      rw [← len_list, ← len_list, pp, app_list, List.length_append]
      rfl)]
  intro b q h; simpa using FB.pinF b h
  eq_refl
theorem pp_ne {x : Str} {a i k : Nat} (h : (a + 3 * i) % 26 ≠ (a + 3 * k) % 26) : pp x a i ≠ pp x a k := by
  refine' @FB.also _ _ ?_ ?_ ?_; rotate_left
  · intro wit__; simp only [↓FB.viaW wit__ (by
      clear wit__
      exact fun e => by
        have e2 := congrArg (fun s : Str => s.cps.toList) e
        simp only [pp, app_list, letter] at e2
        have e3 := List.append_cancel_left e2
        simp at e3
        exact h (by omega))]
  intro b q h; simpa using FB.pinF b h
  eq_refl
theorem pp_w {x : Str} {a i : Nat} (hx : StemOk x) : isW (pp x a i) = true := by
  refine' @FB.also _ _ ?_ ?_ ?_; rotate_left
  · intro wit__; simp only [↓FB.viaW wit__ (by
      clear wit__
      have h1 := pp_len x a i
      unfold isW
      rw [decide_eq_true (show 1 ≤ (pp x a i).length by omega), decide_eq_true (show (pp x a i).length ≤ 8 by have := hx.1; omega), pp, app_list, List.all_append, hx.2.2]
      show (true && true && (true && (low (97 + (a + 3 * i) % 26) && true))) = true
      unfold low
      rw [decide_eq_true (show 97 ≤ 97 + (a + 3 * i) % 26 by omega), decide_eq_true (show 97 + (a + 3 * i) % 26 ≤ 122 by omega)]
      rfl)]
  intro b q h; simpa using FB.pinF b h
  eq_refl
/-- four users -/
def Ppl (ps : List Str) : Prop := ps.length = 4 ∧ ps.Nodup ∧ ∀ x ∈ ps, isW x = true
theorem root_w : isW "root" = true := by decide +kernel
theorem ppl_base {x : Str} {a : Nat} (hx : StemOk x) : Ppl [pp x a 0, pp x a 1, pp x a 2, pp x a 3] ∧ ∀ y ∈ [pp x a 0, pp x a 1, pp x a 2, pp x a 3], "root" ≠ y := by
  refine' @FB.also _ _ ?_ ?_ ?_; rotate_left
  · intro wit__; simp only [↓FB.viaW wit__ (by
      clear wit__
      refine ⟨⟨rfl, ?_, ?_⟩, ?_⟩
      · simp only [List.nodup_cons, List.mem_cons, List.not_mem_nil, or_false, not_or, List.nodup_nil, and_true, not_false_eq_true]
        exact ⟨⟨pp_ne (by omega), pp_ne (by omega), pp_ne (by omega)⟩, ⟨pp_ne (by omega), pp_ne (by omega)⟩, pp_ne (by omega)⟩
      · intro y hy
        simp only [List.mem_cons, List.not_mem_nil, or_false] at hy
        rcases hy with rfl | rfl | rfl | rfl <;> exact pp_w hx
      · intro y hy e
        have h4 : y.length = 4 := by rw [← e]; decide +kernel
        have := hx.2.1
        simp only [List.mem_cons, List.not_mem_nil, or_false] at hy
        rcases hy with rfl | rfl | rfl | rfl <;> (rw [pp_len] at h4; omega))]
  intro b q h; simpa using FB.pinF b h
  eq_refl
theorem ppl_set {ps : List Str} (h : Ppl ps) (hr : ∀ y ∈ ps, "root" ≠ y) (j : Nat) : Ppl (ps.set j "root") := by
  refine' @FB.also _ _ ?_ ?_ ?_; rotate_left
  · intro wit__; simp only [↓FB.viaW wit__ (by
      clear wit__
      obtain ⟨h1, h2, h3⟩ := h
      refine ⟨by rw [List.length_set]; exact h1, ?_, fun x hx => ?_⟩
      · match ps, h1 with
        | [a, b, c, d], _ =>
          simp only [List.nodup_cons, List.mem_cons, List.not_mem_nil, or_false, not_or, List.nodup_nil, and_true, not_false_eq_true] at h2
          have ha := hr a (by simp)
          have hb := hr b (by simp)
          have hc := hr c (by simp)
          have hd := hr d (by simp)
          obtain ⟨⟨n1, n2, n3⟩, ⟨n4, n5⟩, n6⟩ := h2
          match j with
          | 0 => simp [*]
          | 1 => simp [*, ha.symm]
          | 2 => simp [*, ha.symm, hb.symm]
          | 3 => simp [*, ha.symm, hb.symm, hc.symm]
          | j + 4 => simp [*]
      · rcases List.mem_or_eq_of_mem_set hx with hx | rfl
        · exact h3 x hx
        · exact root_w)]
  intro b q h; simpa using FB.pinF b h
  eq_refl
/-- four users, drawn -/
def spPpl : Sp := fun vs H Q _ => ∃ (z : Zn) (u : Addr), vs = [.ref u] ∧ z.R H H ∧ z.I u = some IsPur ∧ ∀ v ps H', Ppl ps → z.R H H' → (∀ H'', z.W H' H'' → Lst z (fun ws _ => ws = ps.map V.str) v H'') → Q v H'
theorem list4 {ws : List V} {f : Nat → V} (h : ws.length = 4) (g : ∀ (i : Nat) w, ws[i]? = some w → w = f i) : ws = [f 0, f 1, f 2, f 3] := by
  refine' @FB.also _ _ ?_ ?_ ?_; rotate_left
  · intro wit__; simp only [↓FB.viaW wit__ (by
      clear wit__
      match ws, h with
      | [a, b, c, d], _ => rw [g 0 a rfl, g 1 b rfl, g 2 c rfl, g 3 d rfl])]
  intro b q h; simpa using FB.pinF b h
  eq_refl
theorem ok_people (T : Tx P K mg cs A_) (d__law_people : Df K mg "_law_people" s__law_people ["_law_purse_here"]) (d__law_take : Df K mg "_law_take" s__law_take ["_law_purse_here", "_law_many"])
    (G__law_take : FnOk P w K mg base CX0 1 d__law_take.f d__law_take.fd ["_law_purse_here", "_law_many"] spTake) : FnOk P w K mg base CX0 2 d__law_people.f d__law_people.fd ["_law_purse_here"] spPpl := by
  refine' @FB.also _ _ ?_ ?_ ?_; rotate_left
  · intro wit__; simp only [↓FB.viaW wit__ (by
      clear wit__
      refine d__law_people.F.ok sc__law_people (fun vs H Q E ⟨_, _, e, _⟩ => by rw [e]; rfl) (fun cdv A outer s H vs Q E hr h => ?_)
      obtain ⟨z, u, rfl, hz, hu, q⟩ := h
      refine ⟨_, (pss_cons (ps_asg (pe_tup (pa_cons (pe_ix (k_ixl (K := K)) (pe_lst (pa_cons pe_str (pa_cons pe_str (pa_cons pe_str (pa_cons pe_str pa_nil))))) (pe_call G__law_take (hr.mono (by decide)) (by rfl) d__law_take.g d__law_take.F.kp d__law_take.b .nil pass0 (pa_cons (pv 0) (pa_cons pe_int pa_nil))) (fun _ _ => rfl)) (pa_cons (pe_call G__law_take (hr.mono (by decide)) (by rfl) d__law_take.g d__law_take.F.kp d__law_take.b .nil pass0 (pa_cons (pv 0) (pa_cons pe_int pa_nil))) pa_nil))) (k_pgt (K := K) (n := 2) (pgs_cons (pg_name (i := 1) sc__law_people.nd rfl (Or.inr rfl)) (pgs_cons (pg_name (i := 2) sc__law_people.nd rfl (Or.inr rfl)) pgs_nil))))
        (pss_cons (ps_setLc (i := 3) (own := [("_law_turn", 4)]) (g := gName 4) rfl sc__law_people.nd rfl rfl (sw_true rfl rfl rfl (by decide +kernel)) (pi_range1 (by rfl) T.range (pa_cons pe_int pa_nil)) (blkOk_by (own := [("_law_turn", 4)]) (N := ["_law_purse_here", "_law_stem", "_law_at", "_law_found", "_law_turn"]) (sc := defScope s__law_people) (by decide +kernel)) (fun _ _ _ _ _ => (pg_name (i := 4) sc__law_people.nd rfl (Or.inl rfl))) (fun _ _ _ _ _ => pts_nil) (fun _ _ _ _ _ => (pe_op op_add_str (pv 1) (pe_ix ix_str pe_str (pe_op op_mod (pe_op op_add (pv 2) (pe_op op_mul pe_int (pv 4))) pe_int) (fun _ _ => rfl)))))
        (pss_cons (ps_if (pt_cmpR op_eq (pe_call G__law_take (hr.mono (by decide)) (by rfl) d__law_take.g d__law_take.F.kp d__law_take.b .nil pass0 (pa_cons (pv 0) (pa_cons pe_int pa_nil))) pe_int (nomark _))
        (pss_one (ps_asg pe_str (pg_sub (pv 3) (pe_call G__law_take (hr.mono (by decide)) (by rfl) d__law_take.g d__law_take.F.kp d__law_take.b .nil pass0 (pa_cons (pv 0) (pa_cons pe_int pa_nil))) set_list)))
        pss_nil)
        (pss_one (ps_ret (pv 3)))))), ?_⟩
      refine q_pair (z := z) (Φ := fun v w _ => (∃ x ∈ stems4, v = .str x) ∧ Nn 26 w H) hz ?_ fun v1 v2 H1 r1 f1 => ?_
      · refine (ev_tup (ea_cons (φ := fun v _ => ∃ x ∈ stems4, v = .str x) (ev_menu (n := 4) (Φ := fun ws _ => ws = stems4.map V.str) (ev_lst (ea_is ev_k (ea_is ev_k (ea_is ev_k (ea_is ev_k ea_nil)))) fun vs H' e => by rw [e]; exact (show 4 ≤ 100000 by decide)) (fun x H2 r2 => ev_take hu (ev_is rfl) ev_k (by decide) (by decide)) fun ws H2 _ e => ?_) fun v H1 r1 _ =>
          ea_cons (φ := Nn 26) (ev_take hu (ev_is rfl) ev_k (by decide) (by decide)) fun v H2 r2 _ => ea_nil) ?_).imp ?_
        · subst e
          refine ⟨rfl, fun w hw => ?_⟩
          obtain ⟨x, hx, rfl⟩ := List.mem_map.mp hw
          exact ⟨x, hx, rfl⟩
        · rintro vs H' ⟨a, r, rfl, _, b, r', rfl, _, rfl⟩
          exact (show 2 ≤ 100000 by decide)
        · rintro v H' _ ⟨p, ws, e, nu, hp, a, r, rfl, ha, b, r', rfl, hb, rfl⟩
          exact ⟨p, _, e, nu, hp, a, b, rfl, ha, hb⟩
      obtain ⟨⟨x, hx, rfl⟩, ⟨at', rfl, hat⟩⟩ := f1 H1 .refl
      have sx := stems_ok x hx
      refine q_set (z := zf H1) (φ := Lst (zf H1) fun ws _ => ws = [pp x at' 0, pp x at' 1, pp x at' 2, pp x at' 3].map V.str) (zfr z0r) ?_ fun v3 H3 r3 f3 => ?_
      · refine (ev_lc (P := (· = 4)) (φ := fun i w _ => w = .str (pp x at' i)) (ei_range (n := 4) (ea_is ev_k ea_nil) (by decide)) (fun n h => by omega) (by intro _; rfl) fun n' i v D H2 hn' hi hxx hD r2 rD => ?_).imp ?_
        · subst hxx
          have hm : CMul 3 (i : Int) := .inr ⟨by omega, by omega⟩
          have hlt : (at' + 3 * i) % 26 < 26 := by omega
          refine ev_addS (ev_is rfl) (ev_ixS (i := (at' + 3 * i) % 26) (c := 97 + (at' + 3 * i) % 26) ev_k (ev_to (ev_i (C := fun _ j => 0 < j) (g := fun i j => .int (i % j)) (ev_i0 (g := fun i j => .int (i + j)) (ev_is rfl) (ev_i (C := CMul) (g := fun i j => .int (i * j)) ev_k (ev_is rfl) hm)) ev_k (by decide)) (by congr 1)) (by decide +kernel) ?_) (by have := sx.1; have h1 : (letter ((at' + 3 * i) % 26)).length = 1 := rfl; omega)
          rw [az_list, List.getElem?_map, List.getElem?_range hlt]
          rfl
        · rintro v H' _ ⟨p, ws, e, nu, hp, h1, h2⟩
          exact ⟨p, ws, e, nu, hp, list4 h1 h2⟩
      obtain ⟨p3, ws3, rfl, nu3, hp3, rfl⟩ := f3 H3 .refl
      have hn1 : H1 p3 = none := Classical.byContradiction nu3
      have r13 : z.R H1 H3 := Zn.R.z0 (zf0 r3) r1.dr
      have hn0 : H p3 = none := r1.back hn1
      have nu : ¬ z.U p3 := hz.nu hn0
      have ni : z.I p3 = none := hz.ni hn0
      have fin : ∀ {H4 : Hp} {ps : List Str} {o1 o2 o4 : Option V} {D : Ends}, D.rt = Q → Ppl ps → z.R H H4 → H4 p3 = some (.lst (ps.map V.str)) → tRet (tVar 3) D [some (.ref u), o1, o2, some (.ref p3), o4] H4 := fun {H4 ps o1 o2 o4 D} eD hp r h =>
        s_ret (z := z) (φ := Lst z fun ws _ => ws = ps.map V.str) r.dr (ev_var rfl fun H' w => ⟨p3, _, rfl, nu, w p3 _ nu h, rfl⟩) fun v H5 r5 f => by
          rw [eD]
          exact q v ps H5 hp (r.tr r5) f
      obtain ⟨hb, hroot⟩ := ppl_base (a := at') sx
      refine q_ifU (z := z) r13.dr (et_any (ev_drawEq (ev_take hu (ev_is rfl) ev_k (by decide) (by decide)))) (fun H4 r4 => ?_) (fun H4 r4 => ?_)
      · have h4 : H4 p3 = _ := r4.kp p3 _ ni hp3
        refine s_subN (z := z) (n := 4) r4.dr ev_k (ev_is rfl) (ev_take hu (ev_is rfl) ev_k (by decide) (by decide)) ni h4 (Nat.le_refl _) fun j H5 hj r5 => ?_
        refine fin rfl (ppl_set hb hroot j) (((r1.tr r13).tr r4).tr r5 |>.mut hn0) ?_
        rw [upd_same, List.map_set]
      · exact fin rfl hb ((r1.tr r13).tr r4) (r4.kp p3 _ ni hp3))]
  intro b q h; simpa using FB.pinF b h
  eq_refl
def GrD (d : PyData) : Prop := ∃ a b c, d = .tuple [.str a, .str b, .str c] ∧ a ∈ texts4 ∧ b ∈ texts4 ∧ c ∈ texts4
theorem ok_grants (T : Tx P K mg cs A_) (d__law_grants : Df K mg "_law_grants" s__law_grants ["_law_purse_here"]) (d__law_take : Df K mg "_law_take" s__law_take ["_law_purse_here", "_law_many"])
    (G__law_take : FnOk P w K mg base CX0 1 d__law_take.f d__law_take.fd ["_law_purse_here", "_law_many"] spTake) : FnOk P w K mg base CX0 2 d__law_grants.f d__law_grants.fd ["_law_purse_here"] (spDat GrD) := by
  refine' @FB.also _ _ ?_ ?_ ?_; rotate_left
  · intro wit__; simp only [↓FB.viaW wit__ (by
      clear wit__
      refine d__law_grants.F.ok sc__law_grants (fun vs H Q E ⟨_, _, e, _⟩ => by rw [e]; rfl) (fun cdv A outer s H vs Q E hr h => ?_)
      obtain ⟨z, u, rfl, hz, hu, q⟩ := h
      refine ⟨_, (pss_one (ps_ret (pe_callTy (k_tuple (K := K)) (by rfl) T.tuple (by decide +kernel) (pa_cons (pe_lc (own := [("_law_turn", 1)]) (g := gName 1) rfl sc__law_grants.nd  (pi_range1 (by rfl) T.range (pa_cons pe_int pa_nil)) (blkOk_by (own := [("_law_turn", 1)]) (N := ["_law_purse_here", "_law_turn"]) (sc := defScope s__law_grants) (by decide +kernel)) (fun _ _ _ _ _ => (pg_name (i := 1) sc__law_grants.nd rfl (Or.inl rfl))) (fun _ _ _ _ _ => pts_nil) (fun _ _ _ _ _ => (pe_ix (k_ixl (K := K)) (pe_lst (pa_cons pe_str (pa_cons pe_str (pa_cons pe_str (pa_cons pe_str pa_nil))))) (pe_call G__law_take (hr.mono (by decide)) (by rfl) d__law_take.g d__law_take.F.kp d__law_take.b .nil pass0 (pa_cons (pv 0) (pa_cons pe_int pa_nil))) (fun _ _ => rfl)))) pa_nil)))), ?_⟩
      refine s_ret (z := z) (φ := Ds z GrD) hz ?_ fun v H1 r1 f => ?_
      · refine (ev_tupleL (ev_lc (P := (· = 3)) (φ := fun _ w _ => ∃ x ∈ texts4, w = .str x) (ei_range (n := 3) (ea_is ev_k ea_nil) (by decide)) (fun n h => by omega) (by intro _; rfl) fun n' i x D H2 hn' hi hx hD r2 rD => ?_)).imp ?_
        · refine ev_menu (n := 4) (Φ := fun ws _ => ws = texts4.map V.str) (ev_lst (ea_is ev_k (ea_is ev_k (ea_is ev_k (ea_is ev_k ea_nil)))) fun vs H' e => by rw [e]; exact (show 4 ≤ 100000 by decide)) (fun x H2 r2 => ev_take (z := z.add D) hu (ev_is rfl) ev_k (by decide) (by decide)) fun ws H2 _ e => ?_
          subst e
          refine ⟨rfl, fun w hw => ?_⟩
          obtain ⟨x, hx, rfl⟩ := List.mem_map.mp hw
          exact ⟨x, hx, rfl⟩
        · rintro v H' _ ⟨p, ws, e, nu, hp, h1, h2⟩
          match ws, h1 with
          | [a, b, c], _ =>
            obtain ⟨xa, ha, rfl⟩ := h2 0 a rfl
            obtain ⟨xb, hb, rfl⟩ := h2 1 b rfl
            obtain ⟨xc, hc, rfl⟩ := h2 2 c rfl
            exact ⟨_, ⟨xa, xb, xc, rfl, ha, hb, hc⟩, by rw [e]; exact .tup nu hp (.cons (.str xa) (.cons (.str xb) (.one (.str xc))))⟩
      · obtain ⟨d, hd, hv⟩ := f H1 .refl
        exact q v d H1 hd r1 fun H3 w => hv.w w)]
  intro b q h; simpa using FB.pinF b h
  eq_refl
/-- GROUPS as they are drawn -/
def RowOk (p : Str × List Str) : Prop := isW p.1 = true ∧ p.2.length ≤ 4 ∧ grS p.2 = true ∧ ∀ u ∈ p.2, isW u = true
def FoDr (fo : Fo) : Prop := fo.length ≤ 4 ∧ grS (fo.map (·.1)) = true ∧ ∀ p ∈ fo, RowOk p
def Clans (ks : List Str) : Prop := sortedS ks = true ∧ ks.Nodup ∧ ks.length ≤ 4 ∧ ∀ k ∈ ks, isW k = true
def spClubs : Sp := fun vs H Q _ => ∃ (z : Zn) (u : Addr) (v : V) (ps : List Str), vs = [.ref u, v] ∧ Ppl ps ∧ z.R H H ∧ z.I u = some IsPur ∧ (∀ H', z.W H H' → Lst z (fun ws _ => ws = ps.map V.str) v H') ∧
  ∀ v' fo H', FoDr fo → z.R H H' → (∀ H'', z.W H' H'' → DU z.U H'' v' (grpD fo)) → Q v' H'
theorem one_w : isW "one" = true := by decide +kernel
theorem two_w : isW "two" = true := by decide +kernel
theorem ok_clubs (T : Tx P K mg cs A_) (d__law_clubs : Df K mg "_law_clubs" s__law_clubs ["_law_purse_here", "_law_people_here"]) (d__law_take : Df K mg "_law_take" s__law_take ["_law_purse_here", "_law_many"])
    (G__law_take : FnOk P w K mg base CX0 1 d__law_take.f d__law_take.fd ["_law_purse_here", "_law_many"] spTake) : FnOk P w K mg base CX0 2 d__law_clubs.f d__law_clubs.fd ["_law_purse_here", "_law_people_here"] spClubs := by
  refine' @FB.also _ _ ?_ ?_ ?_; rotate_left
  · intro wit__; simp only [↓FB.viaW wit__ (by
      clear wit__
      refine d__law_clubs.F.ok sc__law_clubs (fun vs H Q E ⟨_, _, _, _, e, _⟩ => by rw [e]; rfl) (fun cdv A outer s H vs Q E hr h => ?_)
      obtain ⟨z, u, v, ps, rfl, hps, hz, hu, hv, q⟩ := h
      refine ⟨_, (pss_cons (ps_set (i := 2) sc__law_clubs.nd rfl (.inl rfl) (pe_lst pa_nil))
        (pss_cons (ps_for PassesOwn.never rfl (k_pil (K := K) (pi_list (pe_sortSet (K := K) (by rfl) (by rfl) T.sorted (by rfl) T.set (pe_slice (k_sll (K := K)) (pe_lst (pa_cons pe_str (pa_cons pe_str (pa_cons (pe_ix (k_ixl (K := K)) (pv 1) (pe_call G__law_take (hr.mono (by decide)) (by rfl) d__law_take.g d__law_take.F.kp d__law_take.b .nil pass0 (pa_cons (pv 0) (pa_cons pe_int pa_nil))) (fun _ _ => rfl)) (pa_cons pe_str pa_nil))))) po_none (po_some (pe_op op_add pe_int (pe_call G__law_take (hr.mono (by decide)) (by rfl) d__law_take.g d__law_take.F.kp d__law_take.b .nil pass0 (pa_cons (pv 0) (pa_cons pe_int pa_nil))))))))) (pg_name (i := 3) sc__law_clubs.nd rfl (Or.inl rfl))
        (pss_one (ps_expr (pe_bm PySem.F.plainAttrs_list PySem.F.slot_list_append PySem.F.type_list_append mt_append (pv 2) (pa_cons (pe_tup (pa_cons (pv 3) (pa_cons (pe_callTy (k_tuple (K := K)) (by rfl) T.tuple (by decide +kernel) (pa_cons (pe_callB (k_sortedS (K := K)) (by rfl) T.sorted (by decide +kernel) (pa_cons (pe_lc (own := [("_law_one", 4)]) (g := gName 4) rfl sc__law_clubs.nd  (k_pil (K := K) (pi_list (pv 1))) (blkOk_by (own := [("_law_one", 4)]) (N := ["_law_purse_here", "_law_people_here", "_law_found", "_law_clan", "_law_one"]) (sc := defScope s__law_clubs) (by decide +kernel)) (fun _ _ _ _ _ => (pg_name (i := 4) sc__law_clubs.nd rfl (Or.inl rfl))) (fun _ _ _ _ _ => (pts_one (pt_cmpR op_eq (pe_call G__law_take (hr.mono (by decide)) (by rfl) d__law_take.g d__law_take.F.kp d__law_take.b .nil pass0 (pa_cons (pv 0) (pa_cons pe_int pa_nil))) pe_int (nomark _)))) (fun _ _ _ _ _ => (pv 4))) pa_nil)) pa_nil)) pa_nil))) pa_nil)))))
        (pss_one (ps_ret (pe_callTy (k_tuple (K := K)) (by rfl) T.tuple (by decide +kernel) (pa_cons (pv 2) pa_nil)))))), ?_⟩
      obtain ⟨pq, wq, rfl, nuq, hpq, rfl⟩ := hv H .refl
      refine q_set (z := zf H) (φ := Lst (zf H) fun ws _ => ws = []) (zfr z0r) (ev_lst ea_nil fun vs H' e => by rw [e]; exact Nat.zero_le _) fun v1 H1 r1 f1 => ?_
      obtain ⟨p1, ws1, rfl, nu1, hp1, rfl⟩ := f1 H1 .refl
      have hn0 : H p1 = none := Classical.byContradiction nu1
      have rr1 : z.R H H1 := Zn.R.z0 (zf0 r1) hz
      have nI : z.I p1 = none := hz.ni hn0
      have hu' : (z.add p1).I u = some IsPur := hu
      have nuq' : ¬ (z.add p1).U pq := fun h => h.elim nuq fun e => by
        have e' : pq = p1 := e
        rw [e', hn0] at hpq
        cases hpq
      have hq1 : H1 pq = some (.lst (ps.map V.str)) := rr1.w pq _ nuq hpq
      have ppl : ∀ {H' : Hp} {σ : L2.St} {D : Addr} (k : ((z.add p1).add D).W H1 H') (hD : D ≠ pq), σ[1]? = some (some (.ref pq)) → Ev ((z.add p1).add D) (tVar 1) σ H' (Lst ((z.add p1).add D) fun ws _ => ws = ps.map V.str) := fun k hD e => ev_lstv e (fun h => h.elim nuq' fun e => hD e.symm) hq1 k
      have rz' : ∀ {H' : Hp} {xs : List V}, z.R H H' → H' p1 = some (.lst xs) → (z.add p1).R H' H' := fun r h => r.dr.up (by rw [h]; simp) (by rw [h]; simp)
      refine q_forL (z := z.add p1) (Φ := LP Clans) (rz' rr1 hp1) ?_ fun ws H2 r2 hws => ?_
      · refine (ev_sortSetP (P := fun ys => ys.length ≤ 4 ∧ ∀ y ∈ ys, isW y = true) ((ev_cutLP (P := fun xs => xs.length = 4 ∧ ∀ x ∈ xs, isW x = true) (n := 5) ((ev_lst (ea_four (φ := fun v _ => ∃ x ∈ ps, v = .str x) ev_k ev_k (fun H2 r2 => ?_) ev_k) ?_).imp ?_) fun x H2 r2 _ => ?_).imp ?_) fun xs h => by have := h.1; omega).imp ?_
        · exact ev_menuV (ws := ps.map V.str) (n := 4) (ev_lstv rfl nuq' hq1 r2.w) (fun x H3 r3 => ev_take hu' (ev_is rfl) ev_k (by decide) (by decide)) (by rw [List.length_map]; exact hps.1) fun H3 w _ hw => by
            obtain ⟨x, hx, rfl⟩ := List.mem_map.mp hw
            exact ⟨x, hx, rfl⟩
        · rintro vs H' ⟨y, _, rfl⟩
          exact (show 4 ≤ 100000 by decide)
        · rintro v H' _ ⟨p, ws, e, nu, hp, y, ⟨x, hx, rfl⟩, rfl⟩
          refine ⟨p, _, e, nu, hp, ["one", "two", x, "root"], rfl, rfl, fun k hk => ?_⟩
          simp only [List.mem_cons, List.not_mem_nil, or_false] at hk
          rcases hk with rfl | rfl | rfl | rfl
          · exact one_w
          · exact two_w
          · exact hps.2.2 _ hx
          · exact root_w
        · exact ev_op (φ := Is (.int 1)) (ψ := Nn 4) ev_k (fun _ H3 r3 _ => ev_take hu' (ev_is rfl) ev_k (by decide) (by decide)) fun x y H3 r3 e1 ⟨i, e2, hi⟩ => rn_val r3.dr (fun Q0 q0 => ⟨1, (i : Int), e1, e2, q0⟩) fun _ _ => ⟨1 + i, by rw [Int.natCast_add]; rfl, by omega⟩
        · rintro v H' _ ⟨p, ws, e, nu, hp, ys, rfl, xs, ⟨hl, hx⟩, hy, hm⟩
          exact ⟨p, _, e, nu, hp, ys, rfl, by omega, fun y h => hx y (hm y h)⟩
        · rintro v H' _ ⟨p, ws, e, nu, hp, ks, rfl, xs, ⟨hl, hx⟩, h1, h2, h3, h4⟩
          exact ⟨p, _, e, nu, hp, ks, rfl, h1, h2, by omega, fun k hk => hx k ((h3 k).mp hk)⟩
      obtain ⟨ks, rfl, k1, k2, k3, k4⟩ := hws H2 .refl
      have h2p : H2 p1 = some (.lst []) := r2.kp p1 _ nI hp1
      refine ⟨fun i σ' H' => z.R H H' ∧ (z.add p1).W H2 H' ∧ ∃ acc fo o2, H' p1 = some (.lst acc) ∧ acc.length = i ∧ DUA (z.add p1).U H' acc (fo.map rowG) ∧ fo.map (·.1) = ks.take i ∧ (∀ p ∈ fo, RowOk p) ∧ σ' = [some (.ref u), some (.ref pq), some (.ref p1), o2, none],
        ⟨rr1.tr r2.dn, .refl, [], [], none, h2p, rfl, .nil, rfl, fun _ h => (by cases h), rfl⟩, fun i σ' H' hP => hP.2.1, fun i x σ' H' hxx hP => ?_, fun σ' H' hP => ?_⟩
      · obtain ⟨r3, w3, acc, fo, o2, hacc, hla, hda, hnm, hrow, rfl⟩ := hP
        rw [List.getElem?_map] at hxx
        obtain ⟨y, hy, rfl⟩ := Option.map_eq_some_iff.mp hxx
        have hyw := k4 y (List.mem_of_getElem? hy)
        have hi4 : i < ks.length := (List.getElem?_eq_some_iff.mp hy).1
        refine s_app (z := z.add p1) (φ := fun v H' => ∃ p, RowOk p ∧ p.1 = y ∧ DU (z.add p1).U H' v (rowG p)) (rz' r3 hacc) (ev_is rfl) (fun H4 r4 => ?_) nI hacc (by omega) fun v H4 r4 f4 => ?_
        · refine (ev_tup (ea_cons (φ := Is (.str y)) (ev_is rfl) fun v H5 r5 _ => ea_cons (φ := Tup (z.add p1) (LP fun us => us.length ≤ 4 ∧ grS us = true ∧ ∀ u ∈ us, isW u = true)) (ev_tupleL ((ev_sortedLP (P := fun us => us.Sublist ps) ((ev_lcSub (xs := ps.map V.str) (ei_lst (K := K) (ev_lstv rfl nuq' hq1 (((r2.w.tr w3).tr r4.w).tr r5.w))) (by rw [List.length_map]; have := hps.1; omega) (by intro _; rfl) (by intro _; rfl) ?_).imp ?_) ?_).imp ?_)) fun v H6 r6 _ => ea_nil) ?_).imp ?_
          · intro x D H6 hD r6 rD
            exact et_any (ev_drawEq (ev_take (z := (z.add p1).add D) hu' (ev_is rfl) ev_k (by decide) (by decide)))
          · rintro v H' _ ⟨p, ws, e, nu, hp, hsub⟩
            obtain ⟨us, rfl, hs⟩ := sub_strs hsub
            exact ⟨p, _, e, nu, hp, us, rfl, hs⟩
          · intro xs hs
            have := hs.length_le
            have := hps.1
            omega
          · rintro v H' _ ⟨p, ws, e, nu, hp, us, rfl, xs, hs, hperm, hsort⟩
            have hl := hs.length_le
            have hl2 := hperm.length_eq
            exact ⟨p, _, e, nu, hp, us, rfl, by have := hps.1; omega, sorted_gr hsort (hperm.nodup_iff.mpr (hs.nodup hps.2.1)), fun u hu => hps.2.2 u (hs.subset (hperm.mem_iff.mp hu))⟩
          · rintro vs H' ⟨a, r, rfl, _, b, r', rfl, _, rfl⟩
            exact (show 2 ≤ 100000 by decide)
          · rintro v H' _ ⟨p, ws, e, nu, hp, a, r, rfl, ha, b, r', rfl, ⟨pb, wsb, rfl, nub, hpb, us, rfl, h1, h2, h3⟩, rfl⟩
            have ha' : a = .str y := ha
            subst ha'
            exact ⟨(y, us), ⟨hyw, h1, h2, h3⟩, rfl, by rw [e]; exact .tup nu hp (.cons (.str y) (.one (.tup nub hpb (.strs us))))⟩
        · have wu : ∀ {H5 : Hp}, (z.add p1).W H5 (upd H5 p1 (.lst (acc ++ [v]))) := fun {H5} a o na ha => by
            rw [upd_ne fun ea => na (Or.inr ea)]
            exact ha
          obtain ⟨p, hp, epy, hv'⟩ := f4 (upd H4 p1 (.lst (acc ++ [v]))) wu
          refine ⟨(r3.tr r4.dn).mut hn0, (w3.tr r4.w).tr wu, acc ++ [v], fo ++ [p], _, upd_same, by rw [List.length_append, hla]; rfl, ?_, ?_, fun e he => ?_, rfl⟩
          · rw [List.map_append]
            exact ((hda.w r4.w).w wu).app (.one hv')
          · rw [List.map_append, hnm, List.take_add_one, hy]
            show _ = _ ++ [y]
            rw [← epy]
            rfl
          · rcases List.mem_append.mp he with he | he
            · exact hrow e he
            · rw [List.mem_singleton.mp he]; exact hp
      · obtain ⟨r3, w3, acc, fo, o2, hacc, hla, hda, hnm, hrow, rfl⟩ := hP
        rw [List.length_map] at hla hnm
        rw [List.take_length] at hnm
        have hfl : fo.length = ks.length := by rw [← hnm, List.length_map]
        refine s_ret (z := z) (φ := Dd z (grpD fo)) r3.dr ?_ fun v4 H4 r4 f4 => ?_
        · exact (ev_tupleL (Φ := fun ws H' => DUA z.U H' ws (fo.map rowG)) (ev_var rfl fun H' w => ⟨p1, acc, rfl, hz.nu hn0, w p1 _ (hz.nu hn0) hacc, (hda.go fun a o n e => ⟨fun x => n (Or.inl x), e⟩).w w⟩)).imp fun v H' _ ⟨p, ws, e, nu, hp, h⟩ => by rw [e]; exact .tup nu hp h
        · exact q v4 fo H4 ⟨by omega, by rw [hnm]; exact sorted_gr k1 k2, hrow⟩ (r3.tr r4) f4)]
  intro b q h; simpa using FB.pinF b h
  eq_refl
def inB (fo : Fo) (person clan : Str) : Bool := fo.any fun p => decide (V.str p.1 = V.str clan) && inV (.str person) (p.2.map V.str)
def letB (fo : Fo) (person : Str) (c : Nat) (lord clan a b d : Str) : Bool :=
  if person = "root" then true else inC c (if person = lord then a else if inB fo person clan = true then b else d)
def spLet : Sp := fun vs H Q _ => ∃ (z : Zn) (v r : V) (fo : Fo) (person lord clan a b d : Str) (c : Nat), vs = [v, .str person, .str ⟨#[c]⟩, .str lord, .str clan, r] ∧ z.R H H ∧ DU z.U H v (grpD fo) ∧ DU z.U H r (.tuple [.str a, .str b, .str d]) ∧ fo.length ≤ 100 ∧
  ∀ H', z.R H H' → Q (.bl (letB fo person c lord clan a b d)) H'
theorem ok_let (T : Tx P K mg cs A_) (d__law_let : Df K mg "_law_let" s__law_let ["_law_folk", "_law_person", "_law_mark", "_law_lord", "_law_clan", "_law_grants_here"]) :
    FnOk P w K mg base CX0 1 d__law_let.f d__law_let.fd ["_law_folk", "_law_person", "_law_mark", "_law_lord", "_law_clan", "_law_grants_here"] spLet := by
  refine' @FB.also _ _ ?_ ?_ ?_; rotate_left
  · intro wit__; simp only [↓FB.viaW wit__ (by
      clear wit__
      refine d__law_let.F.ok sc__law_let (fun vs H Q E ⟨_, _, _, _, _, _, _, _, _, _, _, e, _⟩ => by rw [e]; rfl) (fun cdv A outer s H vs Q E hr h => ?_)
      obtain ⟨z, v, r, fo, person, lord, clan, a, b, d, c, rfl, hz, hv, hrv, hfl, q⟩ := h
      refine ⟨_, (pss_cons (ps_if (pt_cmpR op_eq (pv 1) pe_str (nomark _))
        (pss_one (ps_ret pe_bl))
        pss_nil)
        (pss_cons (ps_set (i := 6) sc__law_let.nd rfl (.inl rfl) (pe_callB (k_any (K := K)) (by rfl) T.any (by decide +kernel) (pa_cons (pe_lc (own := [("_law_name", 7), ("_law_some", 8)]) (g := gTup K 2 (gCons (gName 7) (gCons (gName 8) gNil))) rfl sc__law_let.nd  (k_pit (K := K) (pi_tup (pv 0))) (blkOk_by (own := [("_law_name", 7), ("_law_some", 8)]) (N := ["_law_folk", "_law_person", "_law_mark", "_law_lord", "_law_clan", "_law_grants_here", "_law_inside", "_law_name", "_law_some", "_law_own"]) (sc := defScope s__law_let) (by decide +kernel)) (fun _ _ _ _ _ => (k_pgt (K := K) (n := 2) (pgs_cons (pg_name (i := 7) sc__law_let.nd rfl (Or.inl rfl)) (pgs_cons (pg_name (i := 8) sc__law_let.nd rfl (Or.inl rfl)) pgs_nil)))) (fun _ _ _ _ _ => pts_nil) (fun _ _ _ _ _ => (pe_and (pe_cmpR op_eq (pv 7) (pv 4) (nomark _)) (pe_one (pe_cmpR (k_in (K := K)) (pv 1) (pv 8) (by rfl)))))) pa_nil)))
        (pss_cons (ps_set (i := 9) sc__law_let.nd rfl (.inl rfl) (pe_ix (k_ixt (K := K)) (pv 5) pe_int (fun _ _ => rfl)))
        (pss_cons (ps_if (pt_val (pv 6))
        (pss_one (ps_set (i := 9) sc__law_let.nd rfl (.inl rfl) (pe_ix (k_ixt (K := K)) (pv 5) pe_int (fun _ _ => rfl))))
        pss_nil)
        (pss_cons (ps_if (pt_cmpR op_eq (pv 1) (pv 3) (nomark _))
        (pss_one (ps_set (i := 9) sc__law_let.nd rfl (.inl rfl) (pe_ix (k_ixt (K := K)) (pv 5) pe_int (fun _ _ => rfl))))
        pss_nil)
        (pss_one (ps_ret (pe_cmpR op_in_sign (pv 2) (pv 9) (by rfl))))))))), ?_⟩
      refine q_if (z := z) hz (et_test (ev_eq (ev_is rfl) ev_k rfl)) (fun hb H1 r1 => ?_) (fun hb H1 r1 => ?_)
      · refine s_ret (z := z) r1.dr ev_k fun v' H8 r8 f => ?_
        have e : v' = .bl true := f H8 .refl
        subst e
        have e2 : letB fo person c lord clan a b d = true := by
          have e3 : person = "root" := by
            have := of_decide_eq_true hb
            injection this
          unfold letB
          rw [if_pos e3]
        rw [← e2]
        exact q H8 (r1.tr r8)
      have n0 : ¬ person = "root" := fun e => (of_decide_eq_false hb) (by rw [e])
      obtain ⟨pa, vs, rfl, npa, hpa, hds⟩ := (hv.w r1.w).tupAt
      have hlen := hds.len
      rw [List.length_map] at hlen
      obtain ⟨pr, rs, rfl, npr, hpr, hrs⟩ := (hrv.w r1.w).tupAt
      obtain ⟨va, vb, vd, rfl, k1, k2, k3⟩ := DUA.three hrs
      have e1 := DU.strAt k1
      have e2 := DU.strAt k2
      have e3 := DU.strAt k3
      subst e1
      subst e2
      subst e3
      refine q_set (z := z) (φ := Is (.bl (inB fo person clan))) r1.dr ?_ fun v6 H2 r2 f2 => ?_
      · refine ev_to (ev_any (bs := fo.map fun p => decide (V.str p.1 = V.str clan) && inV (.str person) (p.2.map V.str)) ((ev_lcG (P := (· = vs.length)) (φ := fun i w _ => ∃ p, fo[i]? = some p ∧ w = .bl (decide (V.str p.1 = V.str clan) && inV (.str person) (p.2.map V.str))) (ei_tup (K := K) (ev_tupv rfl npa hpa)) (fun n h => by omega) fun n i x D H2 _ hi hx hD r2 rD => ?_).imp ?_)) ?_
        · obtain ⟨d', hd, dv⟩ := (hds.w r2.w).at hx
          rw [List.getElem?_map] at hd
          obtain ⟨p, hp, rfl⟩ := Option.map_eq_some_iff.mp hd
          have dv2 : DU (z.add D).U H2 x (rowG p) := by
            obtain ⟨d2, hd2, dv2⟩ := hds.at hx
            rw [List.getElem?_map, hp] at hd2
            cases hd2
            exact dv2.add hD r2.w
          obtain ⟨qa, qb, rfl, na, hqa, nb, hqb⟩ := row_at dv2
          refine ⟨_, fun k hk => ⟨qa, [.str p.1, .ref qb], rfl, .inl (.inl hqa), rfl, .str p.1, [.ref qb], rfl, .ref qb, [], rfl, rfl, hk⟩, rfl, ?_⟩
          exact (ev_and (ev_eq (ev_is rfl) (ev_is rfl) rfl) fun _ => ev_in (ev_is rfl) (ev_is rfl) (fun H3 r3 => .inr (.inl (.inl (r3.w qb _ nb hqb)))) rfl (by simp [List.all_eq_true, flatV])).imp fun w H' _ e => ⟨p, hp, e⟩
        · rintro v' H' _ ⟨p, ws, e, nu, hp, h1, h2⟩
          exact ⟨p, ws, e, nu, hp, bl_of (by rw [h1, hlen]) h2⟩
        · unfold inB
          rw [List.any_map]
          rfl
      have e6 := f2 H2 .refl
      subst e6
      have hpr2 : ∀ {H' : Hp}, z.R H2 H' → H' pr = some (.tup [.str a, .str b, .str d]) := fun r => (r2.tr r).w pr _ npr hpr
      have fin : ∀ {H' : Hp} {o : Str} {D : Ends}, D.rt = Q → z.R H2 H' → letB fo person c lord clan a b d = inC c o → tRet (tOp (fun x y H Q => ∃ (c : Nat) (z : Str), x = .str ⟨#[c]⟩ ∧ y = .str z ∧ Q (.bl (decide (c ∈ z.cps.toList))) H) (tVar 2) (tVar 9)) D
          [some (.ref pa), some (.str person), some (.str ⟨#[c]⟩), some (.str lord), some (.str clan), some (.ref pr), some (.bl (inB fo person clan)), none, none, some (.str o)] H' := fun {H' o D} eD r e => s_ret (z := z) r.dr (ev_inC (ev_is rfl) (ev_is rfl)) fun v' H9 r9 f => by
        have e' : v' = .bl (inC c o) := f H9 .refl
        subst e'
        rw [eD, ← e]
        exact q H9 (((r1.tr r2).tr r).tr r9)
      refine q_set (z := z) r2.dr (ev_ixT (i := 2) (φ := Is (.str d)) (ev_is rfl) ev_k (fun H3 r => .inl (.inl (hpr2 r))) rfl fun _ _ => rfl) fun v9 H3 r3 f3 => ?_
      have e9 := f3 H3 .refl
      subst e9
      have last : ∀ {H' : Hp} {o : Str}, z.R H2 H' → (letB fo person c lord clan a b d = inC c (if person = lord then a else o)) →
          tSeq (tIfS (tTest (tOp rEq (tVar 1) (tVar 3))) (tAsg (tOp (rIxT K) (tVar 5) (tC (.int 0))) (gName 9)) tNext) (tRet (tOp (fun x y H Q => ∃ (c : Nat) (z : Str), x = .str ⟨#[c]⟩ ∧ y = .str z ∧ Q (.bl (decide (c ∈ z.cps.toList))) H) (tVar 2) (tVar 9))) { nx := fun _ H' => Q V.non H', rt := Q }
          [some (.ref pa), some (.str person), some (.str ⟨#[c]⟩), some (.str lord), some (.str clan), some (.ref pr), some (.bl (inB fo person clan)), none, none, some (.str o)] H' := fun {H' o} r e => by
        refine q_if (z := z) r.dr (et_test (ev_eq (ev_is rfl) (ev_is rfl) rfl)) (fun hb H4 r4 => ?_) (fun hb H4 r4 => ?_)
        · refine s_set (z := z) r4.dr (ev_ixT (i := 0) (φ := Is (.str a)) (ev_is rfl) ev_k (fun H3 r' => .inl (.inl (hpr2 ((r.tr r4).tr r')))) rfl fun _ _ => rfl) fun v9 H5 r5 f5 => ?_
          have e9 := f5 H5 .refl
          subst e9
          have e3 : person = lord := by
            have := of_decide_eq_true hb
            injection this
          exact fin rfl ((r.tr r4).tr r5) (by rw [e, if_pos e3])
        · have n1 : ¬ person = lord := fun e => (of_decide_eq_false hb) (by rw [e])
          exact fin rfl (r.tr r4) (by rw [e, if_neg n1])
      refine q_if (z := z) r3.dr (et_B (ev_is rfl)) (fun hb H4 r4 => ?_) (fun hb H4 r4 => ?_)
      · refine s_set (z := z) r4.dr (ev_ixT (i := 1) (φ := Is (.str b)) (ev_is rfl) ev_k (fun H3 r' => .inl (.inl (hpr2 ((r3.tr r4).tr r')))) rfl fun _ _ => rfl) fun v9 H5 r5 f5 => ?_
        have e9 := f5 H5 .refl
        subst e9
        exact last ((r3.tr r4).tr r5) (by unfold letB; rw [if_neg n0, hb]; rfl)
      · exact last (r3.tr r4) (by unfold letB; rw [if_neg n0, hb]; rfl))]
  intro b q h; simpa using FB.pinF b h
  eq_refl
/-- the two readings are one -/
theorem in_us : ∀ {fo : Fo} (person clan : Str), grS (fo.map (·.1)) = true → inV (.str person) ((usF fo clan).map V.str) = inB fo person clan
  | [], _, _, _ => rfl
  | p :: r, person, clan, g => by
    have ih := in_us (fo := r) person clan (gr_tl g)
    show inV (.str person) ((if p.1 = clan then p.2 else usF r clan).map V.str) = ((decide (V.str p.1 = V.str clan) && inV (.str person) (p.2.map V.str)) || inB r person clan)
    by_cases e : p.1 = clan
    · rw [if_pos e, decide_eq_true (show V.str p.1 = V.str clan by rw [e])]
      have no : inB r person clan = false := by
        unfold inB
        rw [List.any_eq_false]
        intro x hx
        have hlt := gr_lt (x := p.1) (l := r.map fun q : Str × List Str => q.1) g x.1 (List.mem_map.mpr ⟨x, hx, rfl⟩)
        have hne : ¬ V.str x.1 = V.str clan := fun e2 => by
          injection e2 with e2
          rw [e2, ← e, ltS_irr] at hlt
          cases hlt
        rw [decide_eq_false hne]
        simp
      rw [no]
      simp
    · rw [if_neg e, decide_eq_false (show ¬ V.str p.1 = V.str clan from fun e2 => e (by injection e2)), ih]
      simp
/-- what drawn GROUPS are -/
theorem isW_txs {x : Str} (h : isW x = true) : Txs 8 x := by
  refine' @FB.also _ _ ?_ ?_ ?_; rotate_left
  · intro wit__; simp only [↓FB.viaW wit__ (by
      clear wit__
      unfold isW at h
      rw [Bool.and_eq_true, Bool.and_eq_true] at h
      refine ⟨of_decide_eq_true h.1.2, fun c hc => ?_⟩
      have := List.all_eq_true.mp h.2 c hc
      unfold low at this
      rw [Bool.and_eq_true] at this
      have := of_decide_eq_true this.2
      omega)]
  intro b q h; simpa using FB.pinF b h
  eq_refl
theorem sD_strs (us : List Str) : (us.map PyData.str).map sD = us := by
  refine' @FB.also _ _ ?_ ?_ ?_; rotate_left
  · intro wit__; simp only [↓FB.viaW wit__ (by
      clear wit__
      rw [List.map_map]
      exact List.map_id' us)]
  intro b q h; simpa using FB.pinF b h
  eq_refl
end
end K05
set_option Elab.async false
set_option linter.all false
set_option maxRecDepth 100000
set_option maxHeartbeats 4000000
namespace K05
open PySem PySem.Spec PyProof.Rows L2 FB RZ
section
variable {P : Program} {w : World} {K : PySem.W.Frag} {mg : Str → Option Value} {base : Heap} {cs : Cs} {A_ : As}
/-- less is promised -/
theorem FnOk.imp {P : Program} {w : World} {K : PySem.W.Frag} {mg : Str → Option Value} {base : Heap} {CX : CXT} {k : Nat} {f : Addr} {fd : FuncData} {ps : List Str} {s1 s2 : Sp} (F : FnOk P w K mg base CX k f fd ps s1) (i : ∀ vs H Q E, s2 vs H Q E → s1 vs H Q E) : FnOk P w K mg base CX k f fd ps s2 := by
  refine' @FB.also _ _ ?_ ?_ ?_; rotate_left
  · intro wit__; simp only [↓FB.viaW wit__ (by
      clear wit__
      exact ⟨fun vs H Q E h => F.len vs H Q E (i _ _ _ _ h), fun A outer s H args us vs Q E hr e b v h => F.run A outer s H args us vs Q E hr e b v (i _ _ _ _ h)⟩)]
  intro b q h; simpa using FB.pinF b h
  eq_refl
/-- a whole number, none below nothing -/
def spCnt : Sp := fun vs H Q _ => ∃ (z : Zn) (n : Int), vs = [.int n] ∧ z.R H H ∧ 0 ≤ n ∧ ∀ H', z.R H H' → Q (.bl true) H'
theorem ok_is_count (T : Tx P K mg cs A_) (d_is_count : Df K mg "is_count" s_is_count ["thing"]) : FnOk P w K mg base CX0 1 d_is_count.f d_is_count.fd ["thing"] spCnt := by
  refine' @FB.also _ _ ?_ ?_ ?_; rotate_left
  · intro wit__; simp only [↓FB.viaW wit__ (by
      clear wit__
      refine d_is_count.F.ok sc_is_count (fun vs H Q E ⟨_, _, e, _⟩ => by rw [e]; rfl) (fun cdv A outer s H vs Q E hr h => ?_)
      obtain ⟨z, n, rfl, hz, hn, q⟩ := h
      refine ⟨_, (pss_one (ps_ret (pe_and (pe_callB (k_isi (K := K)) (by rfl) T.isinstance (by decide +kernel) (pa_cons (pv 0) (pa_cons (pe_bltn (v := .ty "int") (by rfl) T.int (by decide +kernel) rfl) pa_nil))) (pe_and (pe_cmpR op_notB2 (pv 0) pe_bl (nomark _)) (pe_and (pe_cmpR op_notB2 (pv 0) pe_bl (nomark _)) (pe_one (pe_cmpR op_ge (pv 0) pe_int (nomark _)))))))), ?_⟩
      refine s_ret (z := z) (φ := Is (.bl true)) hz (ev_to (ev_and (a := true) (b := true) (ev_to (ev_isi (d := .int n) (ev_var rfl fun H' w => .int n) (kit_int _)) rfl) fun _ => ev_to (ev_and (a := true) (b := true) (ev_to (ev_notB2 (ev_is rfl)) rfl) fun _ => ev_to (ev_and (a := true) (b := true) (ev_to (ev_notB2 (ev_is rfl)) rfl) fun _ => ev_to (ev_i0 (g := fun i j => .bl (decide (j ≤ i))) (ev_is rfl) ev_k) (by rw [decide_eq_true hn])) rfl) rfl) rfl) fun v' H2 r2 f => ?_
      have e := f H2 .refl
      subst e
      exact q H2 r2)]
  intro b q h; simpa using FB.pinF b h
  eq_refl
theorem ok__is_cut (T : Tx P K mg cs A_) (d__is_cut : Df K mg "_is_cut" s__is_cut ["deed"]) (d_is_path : Df K mg "is_path" s_is_path ["thing"]) (d_is_count : Df K mg "is_count" s_is_count ["thing"]) (G_is_path : FnOk P w K mg base CX0 2 d_is_path.f d_is_path.fd ["thing"] (spLook Tl isPathD)) (G_is_count : FnOk P w K mg base CX0 1 d_is_count.f d_is_count.fd ["thing"] spCnt) : FnOk P w K mg base CX0 3 d__is_cut.f d__is_cut.fd ["deed"] (spChk fun e => ∃ xs n, e = .cut xs n) := by
  refine' @FB.also _ _ ?_ ?_ ?_; rotate_left
  · intro wit__; simp only [↓FB.viaW wit__ (by
      clear wit__
      refine d__is_cut.F.ok sc__is_cut (fun vs H Q E ⟨_, _, _, e, _⟩ => by rw [e]; rfl) (fun cdv A outer s H vs Q E hr h => ?_)
      obtain ⟨z, v, e, rfl, hz, hv, ⟨xs, n, rfl⟩, ⟨hp, hn⟩, q⟩ := h
      refine ⟨_, (pss_one (ps_ret (pe_and (pe_cmpR op_eq (pe_callB (k_len (K := K)) (by rfl) T.len PySem.boot_len (pa_cons (pv 0) pa_nil)) pe_int (nomark _)) (pe_and (pe_call G_is_path (hr.mono (by decide)) (by rfl) d_is_path.g d_is_path.F.kp d_is_path.b .nil pass0 (pa_cons (pe_ix (k_ixt (K := K)) (pv 0) pe_int (fun _ _ => rfl)) pa_nil)) (pe_one (pe_call G_is_count (hr.mono (by decide)) (by rfl) d_is_count.g d_is_count.F.kp d_is_count.b .nil pass0 (pa_cons (pe_ix (k_ixt (K := K)) (pv 0) pe_int (fun _ _ => rfl)) pa_nil))))))), ?_⟩
      let ds : List PyData := [.str "cut", paS xs, .int n]
      have it : ∀ {H1 : Hp} {σ : L2.St} {j : Nat} {d : PyData}, z.R H H1 → σ[0]? = some (some v) → ds[j]? = some d → Ev z (tOp (rIxT K) (tVar 0) (tC (.int (j : Int)))) σ H1 (Dd z d) := fun r es hd => ev_ixDT (ds := ds) (ev_var es fun H' w => (hv.w r.w).w w) (fun _ _ => ev_k) hd
      refine s_ret (z := z) (φ := Is (.bl true)) hz (ev_to (ev_and (a := true) (b := true) (ev_to (ev_eq (ev_lenDT (ds := ds) (ev_var rfl fun H' w => hv.w w)) ev_k rfl) rfl) fun _ => ev_to (ev_and (a := true) (b := true) (ev_to (ev_look (ok := Tl) (f := isPathD) (d := paS xs) (it (j := 1) hz rfl rfl) (path_Tl hp)) (by rw [path_isP hp])) fun _ => ev_call (Φ := fun vs _ => vs = [.int n]) (ea_is ((it (j := 2) hz rfl rfl).imp fun v' H' _ f => DU.intAt f) ea_nil) fun vs H4 r4 e4 Q4 q4 => ⟨z, n, by rw [e4]; rfl, r4.dr, hn, fun H' r' => q4 _ H' r' fun _ _ => rfl⟩) rfl) rfl) fun v' H2 r2 f => ?_
      have e := f H2 .refl
      subst e
      exact q H2 r2)]
  intro b q h; simpa using FB.pinF b h
  eq_refl
def okM (e : Dee) : Prop := ∃ f xs, e = .make f xs
def okS (e : Dee) : Prop := ∃ xs, e = .strike xs
def okR (e : Dee) : Prop := ∃ xs o g r1 r2 r3, e = .rights xs o g r1 r2 r3
def okC (e : Dee) : Prop := ∃ xs n, e = .cut xs n
def okAll (e : Dee) : Prop := okM e ∨ okS e ∨ okR e ∨ okC e ∨ e.tells = true
theorem chk_or {a b : Dee → Prop} {fa : Addr} {fd : FuncData} {k : Nat} {ps : List Str} (h1 : FnOk P w K mg base CX0 k fa fd ps (spChk a)) (h2 : FnOk P w K mg base CX0 k fa fd ps (spChk b)) : FnOk P w K mg base CX0 k fa fd ps (spChk fun e => a e ∨ b e) := by
  refine' @FB.also _ _ ?_ ?_ ?_; rotate_left
  · intro wit__; simp only [↓FB.viaW wit__ (by
      clear wit__
      exact FnOk.imp (FnOk.or h1 h2) fun vs H Q E ⟨z, v, e, h0, h1, h2, h3, h4⟩ => h3.elim (fun h => .inl ⟨z, v, e, h0, h1, h2, h, h4⟩) fun h => .inr ⟨z, v, e, h0, h1, h2, h, h4⟩)]
  intro b q h; simpa using FB.pinF b h
  eq_refl
theorem chk_imp {a b : Dee → Prop} {fa : Addr} {fd : FuncData} {k : Nat} {ps : List Str} (h1 : FnOk P w K mg base CX0 k fa fd ps (spChk a)) (i : ∀ e, b e → a e) : FnOk P w K mg base CX0 k fa fd ps (spChk b) :=
  FnOk.imp h1 fun vs H Q E ⟨z, v, e, h0, h1, h2, h3, h4⟩ => ⟨z, v, e, h0, h1, h2, i e h3, h4⟩
theorem deed_or {a b : Dee → Prop} {fa : Addr} {fd : FuncData} {k : Nat} {ps : List Str} (h1 : FnOk P w K mg base CX0 k fa fd ps (spDeed K cs.Folder cs.File cs.Core a)) (h2 : FnOk P w K mg base CX0 k fa fd ps (spDeed K cs.Folder cs.File cs.Core b)) : FnOk P w K mg base CX0 k fa fd ps (spDeed K cs.Folder cs.File cs.Core fun e => a e ∨ b e) := by
  refine' @FB.also _ _ ?_ ?_ ?_; rotate_left
  · intro wit__; simp only [↓FB.viaW wit__ (by
      clear wit__
      exact FnOk.imp (FnOk.or h1 h2) fun vs H Q E ⟨z, c, co, fo, ws, N, user, v, e, h0, h1, h2, h3, h4, h5⟩ => h4.elim (fun h => .inl ⟨z, c, co, fo, ws, N, user, v, e, h0, h1, h2, h3, h, h5⟩) fun h => .inr ⟨z, c, co, fo, ws, N, user, v, e, h0, h1, h2, h3, h, h5⟩)]
  intro b q h; simpa using FB.pinF b h
  eq_refl
/-- a deed that tells isn't handed on -/
theorem reply_ok {a b : Dee → Prop} {fa : Addr} {fd : FuncData} {k : Nat} {ps : List Str} (h1 : FnOk P w K mg base CX0 k fa fd ps (spReply K cs.Folder cs.File cs.Core cs.Tree a)) (i : ∀ e, b e → e.tells = false → a e) : FnOk P w K mg base CX0 k fa fd ps (spReply K cs.Folder cs.File cs.Core cs.Tree b) := by
  refine' @FB.also _ _ ?_ ?_ ?_; rotate_left
  · intro wit__; simp only [↓FB.viaW wit__ (by
      clear wit__
      exact FnOk.imp h1 fun vs H Q E ⟨z, t, dt, pc, c, co, fo, ws, N, when_, user, v, e, h0, h1, h2, h3, h4, h5, h6, h7⟩ => ⟨z, t, dt, pc, c, co, fo, ws, N, when_, user, v, e, h0, h1, h2, h3, h4, i e h5 h6, h6, h7⟩)]
  intro b q h; simpa using FB.pinF b h
  eq_refl
end
end K05
set_option Elab.async false
set_option linter.all false
set_option maxRecDepth 100000
set_option maxHeartbeats 4000000
namespace K05
open PySem PySem.Spec PyProof.Rows L2 FB RZ
section
variable {P : Program} {w : World} {K : PySem.W.Frag} {mg : Str → Option Value} {base : Heap} {cs : Cs} {A_ : As}
def spDue : Sp := fun vs H Q _ => ∃ (z : Zn) (b : Bool), vs = [.bl b] ∧ z.R H H ∧ ∀ H', z.R H H' → Q (.str (if b then "done" else "no")) H'
theorem ok_due (T : Tx P K mg cs A_) (d__law_due : Df K mg "_law_due" s__law_due ["_law_let_here"]) : FnOk P w K mg base CX0 1 d__law_due.f d__law_due.fd ["_law_let_here"] spDue := by
  refine' @FB.also _ _ ?_ ?_ ?_; rotate_left
  · intro wit__; simp only [↓FB.viaW wit__ (by
      clear wit__
      refine d__law_due.F.ok sc__law_due (fun vs H Q E ⟨_, _, e, _⟩ => by rw [e]; rfl) (fun cdv A outer s H vs Q E hr h => ?_)
      obtain ⟨z, b, rfl, hz, q⟩ := h
      refine ⟨_, (pss_one (ps_ret (pe_ix (k_ixl (K := K)) (pe_lst (pa_cons pe_str (pa_cons pe_str pa_nil))) (pe_callTy call_int1 (by rfl) T.int (by decide +kernel) (pa_cons (pv 0) pa_nil)) (fun _ _ => rfl)))), ?_⟩
      refine s_ret (z := z) (φ := Is (.str (if b then "done" else "no"))) hz ((ev_ixDL (ds := [.str "no", .str "done"]) (d := .str (if b then "done" else "no")) (j := if b then 1 else 0) (ed_lst (ed_cons (ed_k fun _ => .str _) fun _ _ => ed_cons (ed_k fun _ => .str _) fun _ _ => ed_nil) (by decide)) (fun H1 r1 => ev_to (ev_int1 (ev_is rfl)) (by cases b <;> rfl)) (by cases b <;> rfl)).imp fun v H' _ f => DU.strAt f) fun v H1 r1 f1 => ?_
      have e := f1 H1 .refl
      subst e
      exact q H1 r1)]
  intro b q h; simpa using FB.pinF b h
  eq_refl
def thD (t : Th) : PyData := .tuple [.str t.lo, .str t.cl, .tuple [.str t.a, .str t.b, .str t.d]]
def ThOk (t : Th) : Prop := isW t.lo = true ∧ isW t.cl = true ∧ rwT t.a ∧ rwT t.b ∧ rwT t.d
abbrev gT : List Value → List Value → List Value := fun us ws => us ++ ws
abbrev gTV : List V → List V → List V := fun us ws => us ++ ws
def madeE (t0 t1 : Th) : List Dee := [.make true ["d"], .make false ["d", "f"], .rights ["d", "f"] t1.lo t1.cl t1.a t1.b t1.d, .rights ["d"] t0.lo t0.cl t0.a t0.b t0.d]
def stg (t0 t1 : Th) (top : Addr) : Nat → NMap → Prop
  | 0 => fun N => ∃ n, N = (fun a => if a = top then some n else none) ∧ topNd n
  | 1 => fun N => ∃ d nt nd, Iu N top d nt nd
  | 2 => fun N => W0 newT newT N top
  | 3 => fun N => W0 newT t1 N top
  | _ => fun N => W0 t0 t1 N top
theorem stg_go {t0 t1 : Th} {top : Addr} {fo : Fo} {N N' : NMap} {e : Dee} {d : PyData} : ∀ {k : Nat}, (madeE t0 t1)[k]? = some e → stg t0 t1 top k N → Res fo top "root" N e N' d → d = doneD ∧ stg t0 t1 top (k + 1) N'
  | 0, he, ⟨n, eN, hn⟩, r => by
    cases he
    subst eN
    exact top_mk hn r
  | 1, he, ⟨dd, nt, nd, I⟩, r => by
    cases he
    exact I.make2 r
  | 2, he, h, r => by
    cases he
    exact W0.rights_f h r
  | 3, he, h, r => by
    cases he
    exact W0.rights_d h r
  | k + 4, he, _, _ => by simp [madeE] at he
theorem stg_all {t0 t1 : Th} {top : Addr} {N : NMap} : ∀ {k : Nat}, stg t0 t1 top k N → ∀ a n, N a = some n → n.kids.length ≤ 8 ∧ n.ps = []
  | 0, ⟨n, eN, hn⟩, a, m, e => by
    subst eN
    have e : (if a = top then some n else none) = some m := e
    by_cases ea : a = top
    · rw [if_pos ea] at e
      cases e
      obtain ⟨h1, h2, h3, h4, h5, h6, h7, h8⟩ := hn
      exact ⟨by rw [h7]; exact Nat.zero_le _, h8⟩
    · rw [if_neg ea] at e
      cases e
  | 1, ⟨dd, nt, nd, I⟩, a, m, e => I.all a m e
  | 2, h, a, m, e => W0.all h a m e
  | 3, h, a, m, e => W0.all h a m e
  | k + 4, h, a, m, e => W0.all (t0 := t0) (t1 := t1) h a m e
theorem pok1 : PathOk ["d"] := ⟨by decide, fun x hx => by
  rw [List.mem_singleton.mp hx]
  decide +kernel⟩
theorem pok2 : PathOk ["d", "f"] := by
  refine' @FB.also _ _ ?_ ?_ ?_; rotate_left
  · intro wit__; simp only [↓FB.viaW wit__ (by
      clear wit__
      exact ⟨by decide, fun x hx => by
        simp only [List.mem_cons, List.not_mem_nil, or_false] at hx
        rcases hx with rfl | rfl <;> decide +kernel⟩)]
  intro b q h; simpa using FB.pinF b h
  eq_refl
theorem pok3 : PathOk ["d", "g"] := by
  refine' @FB.also _ _ ?_ ?_ ?_; rotate_left
  · intro wit__; simp only [↓FB.viaW wit__ (by
      clear wit__
      exact ⟨by decide, fun x hx => by
        simp only [List.mem_cons, List.not_mem_nil, or_false] at hx
        rcases hx with rfl | rfl <;> decide +kernel⟩)]
  intro b q h; simpa using FB.pinF b h
  eq_refl
theorem made_ok {t0 t1 : Th} (h0 : ThOk t0) (h1 : ThOk t1) {e : Dee} (he : e ∈ madeE t0 t1) : e.good ∧ okAll e ∧ ∀ {fo : Fo} {top : Addr} {u : Str} {N : NMap}, Pre fo top u N e := by
  refine' @FB.also _ _ ?_ ?_ ?_; rotate_left
  · intro wit__; simp only [↓FB.viaW wit__ (by
      clear wit__
      simp only [madeE, List.mem_cons, List.not_mem_nil, or_false] at he
      rcases he with rfl | rfl | rfl | rfl
      · exact ⟨pok1, .inl ⟨_, _, rfl⟩, trivial⟩
      · exact ⟨pok2, .inl ⟨_, _, rfl⟩, trivial⟩
      · exact ⟨⟨pok2, h1⟩, .inr (.inr (.inl ⟨_, _, _, _, _, _, rfl⟩)), trivial⟩
      · exact ⟨⟨pok1, h0⟩, .inr (.inr (.inl ⟨_, _, _, _, _, _, rfl⟩)), trivial⟩)]
  intro b q h; simpa using FB.pinF b h
  eq_refl
def spMade (K : PySem.W.Frag) (cs : Cs) : Sp := fun vs H Q _ => ∃ (z : Zn) (v tv : V) (fo : Fo) (t0 t1 : Th), vs = [v, tv] ∧ z.R H H ∧ DU z.U H v (grpD fo) ∧ FoOk fo ∧ GroupsOk fo ∧ DU z.U H tv (.list [thD t0, thD t1]) ∧ ThOk t0 ∧ ThOk t1 ∧
  ∀ v' z' H' t dt c pc co ws N, Step (chg z) z H z' H' → TreeAt cs.Tree z' H' t dt c pc → CoFull K cs.Folder cs.File cs.Core z' H' c co fo ws N → co.clock = 0 → W0 t0 t1 N co.top → Lst z' (fun ws _ => ws = [.ref t, .bl true]) v' H' → Q v' H'
theorem ok_made (T : Tx P K mg cs A_) (d__law_made : Df K mg "_law_made" s__law_made ["_law_folk", "_law_things"]) {dvs : List V} (d_Tree : Did K mg cs.Tree "Tree" s_Tree_init dvs) (d_Tree_do : Dm K cs.Tree "do" "Tree.do" s_Tree_do ["self", "tick", "user", "deed"])
    (kb_Tree : KBn K d_Tree.fd ["self", "groups"] 1 ["groups"] gT gTV) (G_Tree : FnOk P w K mg base CX0 6 d_Tree.f d_Tree.fd ["self", "groups"] (spTInit K cs.Folder cs.File cs.Core cs.Tree GroupsOk))
    (G_Tree_do : FnOk P w K mg base CX0 9 d_Tree_do.f d_Tree_do.fd ["self", "tick", "user", "deed"] (spDo K cs.Folder cs.File cs.Core cs.Tree okAll)) : FnG P w K mg base CX0 11 d__law_made.f d__law_made.fd ["_law_folk", "_law_things"] (spMade K cs) := by
  refine' @FB.also _ _ ?_ ?_ ?_; rotate_left
  · intro wit__; simp only [↓FB.viaW wit__ (by
      clear wit__
      refine fng_ok d__law_made.F sc__law_made (fun vs H Q E ⟨_, _, _, _, _, _, e, _⟩ => by rw [e]; rfl) (fun cdv A outer s H vs Q E hg hr h => ?_)
      obtain ⟨z, v, tv, fo, t0, t1, rfl, hz, hv, hfo, hgo, htv, ht0, ht1, q⟩ := h
      refine ⟨_, (pss_cons (ps_set (i := 2) sc__law_made.nd rfl (.inr rfl) (pe_makeK0 d_Tree.mk1 G_Tree (hr.mono (by decide)) (by rfl) d_Tree.g kb_Tree pass0 (pk_cons (pv 0) pk_nil)))
        (pss_cons (ps_set (i := 3) sc__law_made.nd rfl (.inl rfl) (pe_lst (pa_cons (pe_tup (pa_cons pe_str (pa_cons (pe_tup (pa_cons pe_str pa_nil)) pa_nil))) (pa_cons (pe_tup (pa_cons pe_str (pa_cons (pe_tup (pa_cons pe_str (pa_cons pe_str pa_nil))) pa_nil))) (pa_cons (pe_op (k_catA (K := K)) (pe_tup (pa_cons pe_str (pa_cons (pe_tup (pa_cons pe_str (pa_cons pe_str pa_nil))) pa_nil))) (pe_ix (k_ixl (K := K)) (pv 1) pe_int (fun _ _ => rfl))) pa_nil)))))
        (pss_cons (ps_expr (pe_bm PySem.F.plainAttrs_list PySem.F.slot_list_append PySem.F.type_list_append mt_append (pv 3) (pa_cons (pe_op (k_catA (K := K)) (pe_tup (pa_cons pe_str (pa_cons (pe_tup (pa_cons pe_str pa_nil)) pa_nil))) (pe_ix (k_ixl (K := K)) (pv 1) pe_int (fun _ _ => rfl))) pa_nil)))
        (pss_cons (ps_setLc (i := 4) (own := [("_law_deed", 5)]) (g := gName 5) rfl sc__law_made.nd rfl rfl (sw_true rfl rfl rfl (by decide +kernel)) (k_pil (K := K) (pi_list (pv 3))) (blkOk_by (own := [("_law_deed", 5)]) (N := ["_law_folk", "_law_things", "_law_tree", "_law_deeds", "_law_told", "_law_deed"]) (sc := defScope s__law_made) (by decide +kernel)) (fun _ _ _ _ _ => (pg_name (i := 5) sc__law_made.nd rfl (Or.inl rfl))) (fun _ _ _ _ _ => pts_nil) (fun _ _ _ _ _ => (pe_ix (k_ixt (K := K)) (pe_meth (pv 2) T.cl_Tree d_Tree_do.at_ G_Tree_do (hr.mono (by decide)) d_Tree_do.b .nil pass0 (pa_cons pe_int (pa_cons pe_str (pa_cons (pv 5) pa_nil)))) pe_int (fun _ _ => rfl))))
        (pss_one (ps_ret (pe_lst (pa_cons (pv 2) (pa_cons (pe_cmpR (k_eqD (K := K) hr.units) (pv 4) (pe_op op_rep (pe_lst (pa_cons pe_str pa_nil)) pe_int) (nomark _)) pa_nil))))))))), ?_⟩
      refine q_makeK1 (v := v) rfl fun t dt ht hdt hne => ?_
      have kept : ∀ p o, H p = some o → upd (upd H dt (.own t)) t (.ins cs.Tree dt []) p = some o := fun p o e => by
        have n1 : p ≠ t := fun ea => by
          rw [ea, ht] at e
          cases e
        have n2 : p ≠ dt := fun ea => by
          rw [ea, hdt] at e
          cases e
        rw [upd_ne n1, upd_ne n2]
        exact e
      have st : Step (chg z) z H (z.gr fun p => p = t) (upd (upd H dt (.own t)) t (.ins cs.Tree dt [])) := Step.grow chg_su hz kept fun p e => by
        subst e
        exact ⟨ht, by rw [upd_same]; simp⟩
      refine ⟨z.gr fun p => p = t, t, dt, v, fo, rfl, st.r, .inr rfl, hz.ni ht, upd_same, st.du hv, hfo, hgo, fun z' H2 c pc co ws b n s0 hT hpu hpc hcf hclk htop htn hown => ⟨rfl, ?_⟩⟩
      subst htop
      have s01 : Step (chg z) z H z' H2 := Step.tr hz st s0 fun p (e : p = t) => .inr (by rw [e]; exact ht)
      have it : z'.I t = none := by rw [s01.I]; exact hz.ni ht
      have s1 := s01.rm it ht hz
      have hc1 := hcf.rm it fun p o e => by
        have := hown p o
        rw [e, upd_same] at this
        cases this
      have hT1 : TreeAt cs.Tree (z'.rm t it) H2 t dt c pc := ⟨fun u => u.2 rfl, hT⟩
      generalize z'.rm t it = z1 at s1 hc1 hT1
      have hv1 := s1.du hv
      have htv1 := s1.du htv
      refine q_lstA (z := z1) (i := 3) (Φ := fun vs H' => DUA z1.U H' vs [Dee.data (.make true ["d"]), Dee.data (.make false ["d", "f"]), Dee.data (.rights ["d", "f"] t1.lo t1.cl t1.a t1.b t1.d)]) s1.r ?_ (fun vs H' e => by rw [e.len]; exact (show 3 ≤ 100000 by decide)) fun us p H3 r3 hp f3 => ?_
      · refine ed_cons (ed_tup (ed_cons (ed_k fun _ => .str _) fun _ _ => ed_cons (ed_tup (ed_cons (ed_k fun _ => .str _) fun _ _ => ed_nil) (by decide)) fun _ _ => ed_nil) (by decide)) fun H4 r4 => ed_cons (ed_tup (ed_cons (ed_k fun _ => .str _) fun _ _ => ed_cons (ed_tup (ed_cons (ed_k fun _ => .str _) fun _ _ => ed_cons (ed_k fun _ => .str _) fun _ _ => ed_nil) (by decide)) fun _ _ => ed_nil) (by decide)) fun H5 r5 => ed_cons ?_ fun _ _ => ed_nil
        exact ev_catDT (ds := [.str "rights", paS ["d", "f"]]) (es := [.str t1.lo, .str t1.cl, .tuple [.str t1.a, .str t1.b, .str t1.d]]) (ed_tup (ed_cons (ed_k fun _ => .str _) fun _ _ => ed_cons (ed_tup (ed_cons (ed_k fun _ => .str _) fun _ _ => ed_cons (ed_k fun _ => .str _) fun _ _ => ed_nil) (by decide)) fun _ _ => ed_nil) (by decide)) (fun H6 r6 => ev_ixDL (ds := [thD t0, thD t1]) (d := thD t1) (j := 1) (ev_var rfl fun H' w => (htv1.w ((r4.tr r5).tr r6).w).w w) (fun _ _ => ev_k) rfl) (show 5 ≤ 100000 by decide)
      have hd3 := f3 H3 .refl
      have np : ¬ z1.U p := r3.dr.nu hp
      have ip : z1.I p = none := r3.dr.ni hp
      have hp2 : H2 p = none := r3.back hp
      have r3p : z1.R H2 (upd H3 p (.lst us)) := r3.mut hp2
      have ra : (z1.add p).R (upd H3 p (.lst us)) (upd H3 p (.lst us)) := r3p.dr.up (by rw [upd_same]; simp) (by rw [upd_same]; simp)
      have hl3 : us.length = 3 := hd3.len
      refine q_app (z := z1.add p) (φ := Dd (z1.add p) (Dee.data (.rights ["d"] t0.lo t0.cl t0.a t0.b t0.d))) ra (ev_is rfl) (fun H4 r4 => ?_) ip upd_same (by omega) fun v4 H4 r4 f4 => ?_
      · exact ev_catDT (ds := [.str "rights", paS ["d"]]) (es := [.str t0.lo, .str t0.cl, .tuple [.str t0.a, .str t0.b, .str t0.d]]) (ed_tup (ed_cons (ed_k fun _ => .str _) fun _ _ => ed_cons (ed_tup (ed_cons (ed_k fun _ => .str _) fun _ _ => ed_nil) (by decide)) fun _ _ => ed_nil) (by decide)) (fun H6 r6 => ev_ixDL (ds := [thD t0, thD t1]) (d := thD t0) (j := 0) (ev_var rfl fun H' w => ((htv1.add hp2 r3p.w).w (r4.tr r6).w).w w) (fun _ _ => ev_k) rfl) (show 5 ≤ 100000 by decide)
      have wu : (z1.add p).W H4 (upd H4 p (.lst (us ++ [v4]))) := fun a o na ha => by
        rw [upd_ne fun ea => na (Or.inr ea)]
        exact ha
      have w3u : z1.W H3 (upd H3 p (.lst us)) := fun a o na ha => by
        rw [upd_ne fun ea => by rw [ea, hp] at ha; cases ha]
        exact ha
      have hxs : DUA z1.U (upd H4 p (.lst (us ++ [v4]))) (us ++ [v4]) ((madeE t0 t1).map Dee.data) := by
        have h3 : DUA (z1.add p).U (upd H4 p (.lst (us ++ [v4]))) us [Dee.data (.make true ["d"]), Dee.data (.make false ["d", "f"]), Dee.data (.rights ["d", "f"] t1.lo t1.cl t1.a t1.b t1.d)] := (((hd3.go fun a o n e => ⟨fun u => u.elim n fun ea => (by rw [ea, hp] at e; cases e), w3u a o n e⟩).w r4.w).w wu)
        have h4 : DU (z1.add p).U (upd H4 p (.lst (us ++ [v4]))) v4 (Dee.data (.rights ["d"] t0.lo t0.cl t0.a t0.b t0.d)) := f4 _ wu
        exact (h3.app (.one h4)).go fun a o n e => ⟨fun u => n (Or.inl u), e⟩
      have rb : z1.R H2 (upd H4 p (.lst (us ++ [v4]))) := (r3p.tr r4.dn).mut hp2
      have hpb : upd H4 p (.lst (us ++ [v4])) p = some (.lst (us ++ [v4])) := upd_same
      generalize upd H4 p (.lst (us ++ [v4])) = Hb at hxs rb hpb
      generalize us ++ [v4] = xs at hxs hpb
      have hlx : xs.length = 4 := hxs.len
      have hcb := hc1.go rb
      have hTb := hT1.go rb.w
      have sb : Step (chg z) z H z1 Hb := Step.trc hz s1 (Step.of_R chg_su rb)
      have ni : ∀ {D : Addr}, Hb D = none → z1.I D = none := fun hD => rb.dr.ni hD
      have sD0 : ∀ {D : Addr}, Hb D = none → Step (fun _ => False) z1 Hb (z1.gr fun a => a = D) (upd Hb D (.lst [])) := fun {D} hD => Step.grow (fun _ h => h.elim) rb.dr (fun a o e => by
        rw [upd_ne fun ea => by rw [ea, hD] at e; cases e]
        exact e) fun a e => by
        subst e
        exact ⟨hD, by rw [upd_same]; simp⟩
      refine q_lcW (K := K) (ip := 3) (p := p) (xs := xs) (fun D k H' acc => ∃ zk N co', Step (chg (z1.gr fun a => a = D)) (z1.gr fun a => a = D) (upd Hb D (.lst [])) zk H' ∧ CoFull K cs.Folder cs.File cs.Core zk H' c co' fo ws N ∧ co'.top = co.top ∧ co'.clock = 0 ∧ H' D = some (.lst acc) ∧ acc = List.replicate k (.str "done") ∧ stg t0 t1 co.top k N) rfl hpb (by intro _; rfl) (fun D hD => ?_) (fun D k H' acc hD hW => ?_) (fun D k H' acc x hD hW hx => ?_) (fun D H' acc hD hW => ?_)
      · exact ⟨_, _, co, Step.of_R chg_su (sD0 hD).r, hcb.frame (sD0 hD) fun _ _ q => q, rfl, hclk, upd_same, rfl, n, rfl, htn⟩
      · obtain ⟨zk, N, co', s, _⟩ := hW
        have pD : p ≠ D := fun e => by
          rw [e, hD] at hpb
          cases hpb
        exact s.w p _ (fun u => u.elim np pD) (by rw [upd_ne pD]; exact hpb)
      · obtain ⟨zk, N, co', s, hck, htk, hclk', hDk, hacc, hst⟩ := hW
        have hTk := (hTb.step (sD0 hD)).step s
        obtain ⟨d, hd, hdx⟩ := (s.dua ((sD0 hD).dua hxs)).at hx
        rw [List.getElem?_map] at hd
        obtain ⟨e, he, rfl⟩ := Option.map_eq_some_iff.mp hd
        obtain ⟨hg1, hok, hpre⟩ := made_ok ht0 ht1 (List.mem_of_getElem? he)
        have hall := stg_all hst
        refine do_run (z := zk) (c := c) (co := co') (N := N) (e := e) (ok := okAll) s.r hTk hck (ev_is rfl) (fun H1 r1 => ?_) (by rw [hclk']; exact Int.le_refl _) root_w hok hg1 hpre (fun a n e => by have := (hall a n e).1; omega) fun z2 H2 N2 d v' s2 hc2 hres hdk => ?_
        · exact (ea_cons (φ := Is (.int 0)) ev_k fun _ H2 r2 _ => ea_cons (φ := Is (.str "root")) ev_k fun _ H3 r3 _ => ea_cons (φ := Dd zk e.data) (ev_var rfl fun H' w => (hdx.w (r1.tr (r2.tr r3)).w).w w) fun _ _ _ _ => ea_nil).imp fun vs H' _ ⟨a, r, e1, f1, b, r2, e2, f2, x3, r3, e3, f3, e4⟩ => ⟨x3, by
            have g1 : a = .int 0 := f1
            have g2 : b = .str "root" := f2
            rw [e1, e2, e3, e4, g1, g2], f3⟩
        · rw [htk] at hres
          obtain ⟨rfl, hst2⟩ := stg_go he hst hres
          have iD : zk.I D = none := by rw [s.I]; exact ni hD
          have hD2 : H2 D = some (.lst acc) := s2.kp D _ iD (hck.no_lst hDk) hDk
          have uD : z2.U D := s2.U2 D (s.U2 D (.inr rfl))
          have iD2 : z2.I D = none := by rw [s2.I]; exact iD
          unfold tC
          dsimp only
          refine rix0 (K := K) (z := z2) (x := "done") (ds := []) hdk ?_
          refine ⟨acc, hD2, ?_, acc ++ [.str "done"], ?_⟩
          · rw [hacc, List.length_replicate]
            have := (List.getElem?_eq_some_iff.mp hx).1
            exact Nat.lt_of_le_of_lt (show k ≤ 100000 by omega) (by decide)
          · have s3 : Step (fun a => a = D) z2 H2 z2 (upd H2 D (.lst (acc ++ [.str "done"]))) := Step.upd s2.r (fun a e => by rw [e]; exact uD) rfl hD2 iD2
            have s23 := Step.trc s.r (s2.weak (fun a o => hck.chg o) chg_su) (s3.weak (fun a e => by rw [e]; exact ⟨uD, iD2⟩) chg_su)
            refine ⟨z2, N2, _, Step.trc (sD0 hD).r s s23, hc2.frame s3 fun a o e => hc2.no_lst hD2 (by rw [← e]; exact o), htk, rfl, upd_same, ?_, hst2⟩
            rw [hacc, List.replicate_succ']
      · obtain ⟨zk, N, co', s, hck, htk, hclk', hDk, hacc, hst⟩ := hW
        have hTk := (hTb.step (sD0 hD)).step s
        rw [hlx] at hacc hst
        have iD : zk.I D = none := by rw [s.I]; exact ni hD
        have sAll : Step (chg z) z H zk H' := Step.trc hz sb (Step.trc rb.dr ((sD0 hD).weak (fun _ h => h.elim) chg_su) s)
        refine s_ret (z := zk) (φ := Lst zk fun ws _ => ws = [.ref t, .bl true]) s.r (ev_lst (ea_is (ev_is rfl) (ea_is ?_ ea_nil)) fun vs H' e => by rw [e]; exact (show 2 ≤ 100000 by decide)) fun v5 H5 r5 f5 => q v5 zk H5 t dt c pc co' ws N (Step.trc hz sAll (Step.of_R chg_su r5)) (hTk.go r5.w) (hck.go r5) hclk' (by rw [htk]; exact hst) (f5 H5 .refl)
        refine ev_op (φ := Is (.ref D)) (ψ := Lst zk fun ws _ => ws = (List.replicate (4 : Int).toNat [.str "done"]).flatten) (ev_is rfl) (fun _ H1 r _ => ev_rep (xs := [.str "done"]) (k := 4) (ev_lst (ea_is ev_k ea_nil) fun vs H' e => by rw [e]; exact (show 1 ≤ 100000 by decide)) (fun _ _ => ev_k) (by decide) (by decide) (by decide)) fun x y H1 r hx hy => ?_
        obtain ⟨p', ws', rfl, nu', hp', rfl⟩ := hy
        have hx' : x = .ref D := hx
        subst hx'
        have hD1 := r.kp D _ iD hDk
        rw [hacc] at hD1
        refine rn_val r.dr (fun Q k => ⟨.list [.str "done", .str "done", .str "done", .str "done"], .list [.str "done", .str "done", .str "done", .str "done"], .lst (.inl (.inl hD1)) (.cons (.str _) (.cons (.str _) (.cons (.str _) (.cons (.str _) .nil)))), .lst (.inl (.inl hp')) (.cons (.str _) (.cons (.str _) (.cons (.str _) (.cons (.str _) .nil)))), by decide +kernel, by decide +kernel, ?_⟩) fun _ _ => rfl
        rw [show PyData.eqv (.list [.str "done", .str "done", .str "done", .str "done"]) (.list [.str "done", .str "done", .str "done", .str "done"]) = true by decide +kernel]
        exact k)]
  intro b q h; simpa using FB.pinF b h
  eq_refl
end
end K05
set_option Elab.async false
set_option linter.all false
set_option maxRecDepth 100000
set_option maxHeartbeats 4000000
namespace K05
open PySem PySem.Spec PyProof.Rows L2 FB RZ
section
variable {P : Program} {w : World} {K : PySem.W.Frag} {mg : Str → Option Value} {base : Heap} {cs : Cs} {A_ : As}
abbrev mayPs : List Str := ["groups", "user", "sign", "owner", "group", "rights"]
abbrev g1 : List Value → List Value → List Value := fun us ws => us ++ ws
abbrev gV1 : List V → List V → List V := fun us ws => us ++ ws
theorem rt_of {a : Str} (h : rwT a) : isRT (.str a) = true := by
  refine' @FB.also _ _ ?_ ?_ ?_; rotate_left
  · intro wit__; simp only [↓FB.viaW wit__ (by
      clear wit__
      rcases h with rfl | rfl | rfl | rfl <;> rfl)]
  intro b q h; simpa using FB.pinF b h
  eq_refl
theorem rt_sl {a : Str} (h : rwT a) : Bd 2 (.str a) := Bd.of (fun y e => by
  cases e
  rcases h with rfl | rfl | rfl | rfl <;> decide +kernel) fun ds e => by cases e
theorem th_rights {t : Th} (h : ThOk t) : isRightsD (.tuple [.str t.a, .str t.b, .str t.d]) = true ∧ Bd 3 (.tuple [.str t.a, .str t.b, .str t.d]) := by
  refine' @FB.also _ _ ?_ ?_ ?_; rotate_left
  · intro wit__; simp only [↓FB.viaW wit__ (by
      clear wit__
      obtain ⟨_, _, ha, hb, hd⟩ := h
      refine ⟨?_, Bd.dn (n := 3) ⟨fun y e => (by cases e), fun es e => ?_⟩⟩
      · show (true && (isRT (.str t.a) && (isRT (.str t.b) && (isRT (.str t.d) && true)))) = true
        rw [rt_of ha, rt_of hb, rt_of hd]
        rfl
      · cases e
        refine ⟨show 3 ≤ 60 by decide, fun x hx => ?_⟩
        simp only [List.mem_cons, List.not_mem_nil, or_false] at hx
        rcases hx with rfl | rfl | rfl
        · exact Bd.of (rt_sl ha).sl fun ds e => by cases e
        · exact Bd.of (rt_sl hb).sl fun ds e => by cases e
        · exact Bd.of (rt_sl hd).sl fun ds e => by cases e)]
  intro b q h; simpa using FB.pinF b h
  eq_refl
theorem may_let2 {fo : Fo} {person : Str} {c : Nat} {lord clan a b d : Str} (h : grS (fo.map (·.1)) = true) : mayB fo person c lord clan a b d = letB fo person c lord clan a b d := by
  refine' @FB.also _ _ ?_ ?_ ?_; rotate_left
  · intro wit__; simp only [↓FB.viaW wit__ (by
      clear wit__
      unfold mayB letB
      rw [in_us person clan h]
      by_cases e : person = "root"
      · rw [if_pos e, if_pos e]
      · rw [if_neg e, if_neg e]
        by_cases e2 : person = lord
        · rw [if_pos e2, if_pos e2]
        · rw [if_neg e2, if_neg e2]
          by_cases e3 : inB fo person clan = true
          · rw [if_pos e3, if_pos e3]
          · rw [if_neg e3, if_neg e3])]
  intro b q h; simpa using FB.pinF b h
  eq_refl
def rowB (fo : Fo) (u : Str) (t : Th) : PyData := .list [.bool (mayT fo u 114 t), .bool (mayT fo u 119 t)]
def sgN (i : Nat) : Nat := if i = 0 then 114 else 119
theorem sg_at {i : Nat} {x : V} (h : ([.str "r", .str "w"] : List V)[i]? = some x) : x = .str ⟨#[sgN i]⟩ ∧ (sgN i = 114 ∨ sgN i = 119) := by
  refine' @FB.also _ _ ?_ ?_ ?_; rotate_left
  · intro wit__; simp only [↓FB.viaW wit__ (by
      clear wit__
      match i, h with
      | 0, h => cases h; exact ⟨rfl, .inl rfl⟩
      | 1, h => cases h; exact ⟨rfl, .inr rfl⟩)]
  intro b q h; simpa using FB.pinF b h
  eq_refl
theorem two_bl {ws : List V} {f : Nat → V} (h : ws.length = 2) (g : ∀ (i : Nat) w, ws[i]? = some w → w = f i) : ws = [f 0, f 1] := by
  refine' @FB.also _ _ ?_ ?_ ?_; rotate_left
  · intro wit__; simp only [↓FB.viaW wit__ (by
      clear wit__
      match ws, h with
      | [a, b], _ => rw [g 0 a rfl, g 1 b rfl])]
  intro b q h; simpa using FB.pinF b h
  eq_refl
theorem eqv_row {fo : Fo} {u : Str} {t : Th} : PyData.eqv (rowB fo u t) (rowB fo u t) = true := by
  refine' @FB.also _ _ ?_ ?_ ?_; rotate_left
  · intro wit__; simp only [↓FB.viaW wit__ (by
      clear wit__
      unfold rowB
      cases mayT fo u 114 t <;> cases mayT fo u 119 t <;> decide +kernel)]
  intro b q h; simpa using FB.pinF b h
  eq_refl
theorem sh_row {fo : Fo} {u : Str} {t : Th} : SeqAt.shaped (rowB fo u t) = true := by
  refine' @FB.also _ _ ?_ ?_ ?_; rotate_left
  · intro wit__; simp only [↓FB.viaW wit__ (by
      clear wit__
      unfold rowB
      cases mayT fo u 114 t <;> cases mayT fo u 119 t <;> decide +kernel)]
  intro b q h; simpa using FB.pinF b h
  eq_refl
def spOne (K : PySem.W.Frag) (cs : Cs) : Sp := fun vs H Q _ => ∃ (z : Zn) (t dt pc c : Addr) (co : Co) (fo : Fo) (ws : List V) (N : NMap) (v tv : V) (person : Str) (t0 t1 : Th), vs = [.ref t, v, .str person, tv] ∧ z.R H H ∧ TreeAt cs.Tree z H t dt c pc ∧ CoFull K cs.Folder cs.File cs.Core z H c co fo ws N ∧ co.clock ≤ 1 ∧ W0 t0 t1 N co.top ∧
  DU z.U H v (grpD fo) ∧ GroupsOk fo ∧ grS (fo.map (·.1)) = true ∧ fo.length ≤ 100 ∧ DU z.U H tv (.list [thD t0, thD t1]) ∧ ThOk t0 ∧ ThOk t1 ∧ isW person = true ∧
  ∀ z' H' co' N', Step (chg z) z H z' H' → CoFull K cs.Folder cs.File cs.Core z' H' c co' fo ws N' → co'.clock ≤ 1 → co'.top = co.top → W0 t0 t1 N' co.top → Q (.bl true) H'
theorem sh_ans (g : Bool) : SeqAt.shaped (ansD g) = true := by cases g <;> decide +kernel
theorem no_dec (g : Bool) : V.bl (decide (V.str (if g = true then "done" else "no") = V.str "no")) = .bl (!g) := by cases g <;> decide +kernel
theorem eqv_no (g : Bool) (h : (!g) = true) : V.bl (!PyData.eqv (ansD g) (noD "noright")) = .bl false := by
  refine' @FB.also _ _ ?_ ?_ ?_; rotate_left
  · intro wit__; simp only [↓FB.viaW wit__ (by
      clear wit__
      cases g
      · decide +kernel
      · cases h)]
  intro b q h; simpa using FB.pinF b h
  eq_refl
theorem ok_one (T : Tx P K mg cs A_) (d__law_one_right : Df K mg "_law_one_right" s__law_one_right ["_law_tree", "_law_folk", "_law_person", "_law_things"]) (d_may : Dk K mg "may" s_may) (d__law_let : Df K mg "_law_let" s__law_let ["_law_folk", "_law_person", "_law_mark", "_law_lord", "_law_clan", "_law_grants_here"])
    (d__law_due : Df K mg "_law_due" s__law_due ["_law_let_here"]) (d_Tree_do : Dm K cs.Tree "do" "Tree.do" s_Tree_do ["self", "tick", "user", "deed"])
    (kb1 : KBn K d_may.fd mayPs 3 ["owner", "group", "rights"] g1 gV1) (G_may : FnOk P w K mg base CX0 3 d_may.f d_may.fd mayPs spMay) (G__law_let : FnOk P w K mg base CX0 1 d__law_let.f d__law_let.fd ["_law_folk", "_law_person", "_law_mark", "_law_lord", "_law_clan", "_law_grants_here"] spLet)
    (G__law_due : FnOk P w K mg base CX0 1 d__law_due.f d__law_due.fd ["_law_let_here"] spDue) (G_Tree_do : FnOk P w K mg base CX0 9 d_Tree_do.f d_Tree_do.fd ["self", "tick", "user", "deed"] (spDo K cs.Folder cs.File cs.Core cs.Tree okAll)) :
    FnG P w K mg base CX0 11 d__law_one_right.f d__law_one_right.fd ["_law_tree", "_law_folk", "_law_person", "_law_things"] (spOne K cs) := by
  refine' @FB.also _ _ ?_ ?_ ?_; rotate_left
  · intro wit__; simp only [↓FB.viaW wit__ (by
      clear wit__
      refine fng_ok d__law_one_right.F sc__law_one_right (fun vs H Q E ⟨_, _, _, _, _, _, _, _, _, _, _, _, _, _, e, _⟩ => by rw [e]; rfl) (fun cdv A outer s H vs Q E hg hr h => ?_)
      obtain ⟨z, t, dt, pc, c, co, fo, ws, N, v, tv, person, t0, t1, rfl, hz, hT, hc, hclk, hW, hv, hgo, hgS, hfl, htv, ht0, ht1, hperson, q⟩ := h
      refine ⟨_, (pss_cons (ps_set (i := 4) sc__law_one_right.nd rfl (.inl rfl) (pe_lst pa_nil))
        (pss_cons (ps_for PassesOwn.never rfl (k_pil (K := K) (pi_list (pv 3))) (k_pgt (K := K) (n := 3) (pgs_cons (pg_name (i := 5) sc__law_one_right.nd rfl (Or.inr rfl)) (pgs_cons (pg_name (i := 6) sc__law_one_right.nd rfl (Or.inr rfl)) (pgs_cons (pg_name (i := 7) sc__law_one_right.nd rfl (Or.inr rfl)) pgs_nil))))
        (pss_cons (ps_setLc (i := 8) (own := [("_law_mark", 9)]) (g := gName 9) rfl sc__law_one_right.nd rfl rfl (sw_true rfl rfl rfl (by decide +kernel)) (k_pil (K := K) (pi_list (pe_lst (pa_cons pe_str (pa_cons pe_str pa_nil))))) (blkOk_by (own := [("_law_mark", 9)]) (N := ["_law_tree", "_law_folk", "_law_person", "_law_things", "_law_lets", "_law_lord", "_law_clan", "_law_grants_here", "_law_row", "_law_mark", "_law_through", "_law_make", "_law_read", "_law_write", "_law_due_here", "_law_told"]) (sc := defScope s__law_one_right) (by decide +kernel)) (fun _ _ _ _ _ => (pg_name (i := 9) sc__law_one_right.nd rfl (Or.inl rfl))) (fun _ _ _ _ _ => pts_nil) (fun _ _ _ _ _ => (pe_callN G_may (hr.mono (by decide)) (by rfl) d_may.g d_may.F.kp kb1 pass0 (pa_cons (pv 1) (pa_cons (pv 2) (pa_cons (pv 9) pa_nil))) (pk_cons (pv 5) (pk_cons (pv 6) (pk_cons (pv 7) pk_nil))))))
        (pss_cons (ps_if (pt_cmpR (k_neD (K := K) hr.units) (pv 8) (pe_lc (own := [("_law_mark", 9)]) (g := gName 9) rfl sc__law_one_right.nd  (k_pil (K := K) (pi_list (pe_lst (pa_cons pe_str (pa_cons pe_str pa_nil))))) (blkOk_by (own := [("_law_mark", 9)]) (N := ["_law_tree", "_law_folk", "_law_person", "_law_things", "_law_lets", "_law_lord", "_law_clan", "_law_grants_here", "_law_row", "_law_mark", "_law_through", "_law_make", "_law_read", "_law_write", "_law_due_here", "_law_told"]) (sc := defScope s__law_one_right) (by decide +kernel)) (fun _ _ _ _ _ => (pg_name (i := 9) sc__law_one_right.nd rfl (Or.inl rfl))) (fun _ _ _ _ _ => pts_nil) (fun _ _ _ _ _ => (pe_call G__law_let (hr.mono (by decide)) (by rfl) d__law_let.g d__law_let.F.kp d__law_let.b .nil pass0 (pa_cons (pv 1) (pa_cons (pv 2) (pa_cons (pv 9) (pa_cons (pv 5) (pa_cons (pv 6) (pa_cons (pv 7) pa_nil))))))))) (nomark _))
        (pss_one (ps_ret pe_bl))
        pss_nil)
        (pss_one (ps_expr (pe_bm PySem.F.plainAttrs_list PySem.F.slot_list_append PySem.F.type_list_append mt_append (pv 4) (pa_cons (pv 8) pa_nil)))))))
        (pss_cons (ps_asg (pv 4) (k_pgl (K := K) (n := 2) (pgs_cons (k_pgl (K := K) (n := 2) (pgs_cons (pg_name (i := 10) sc__law_one_right.nd rfl (Or.inl rfl)) (pgs_cons (pg_name (i := 11) sc__law_one_right.nd rfl (Or.inl rfl)) pgs_nil))) (pgs_cons (k_pgl (K := K) (n := 2) (pgs_cons (pg_name (i := 12) sc__law_one_right.nd rfl (Or.inl rfl)) (pgs_cons (pg_name (i := 13) sc__law_one_right.nd rfl (Or.inl rfl)) pgs_nil))) pgs_nil))))
        (pss_cons (ps_set (i := 14) sc__law_one_right.nd rfl (.inl rfl) (pe_ix (k_ixl (K := K)) (pe_lst (pa_cons (pe_tup (pa_cons pe_str (pa_cons (pe_tup pa_nil) pa_nil))) (pa_cons (pe_tup (pa_cons pe_str (pa_cons pe_str pa_nil))) pa_nil))) (pe_callTy call_int1 (by rfl) T.int (by decide +kernel) (pa_cons (pe_not (pe_and (pv 10) (pe_one (pv 12)))) pa_nil)) (fun _ _ => rfl)))
        (pss_cons (ps_if (pt_cmpR (k_neD (K := K) hr.units) (pe_meth (pv 0) T.cl_Tree d_Tree_do.at_ G_Tree_do (hr.mono (by decide)) d_Tree_do.b .nil pass0 (pa_cons pe_int (pa_cons (pv 2) (pa_cons (pe_tup (pa_cons pe_str (pa_cons (pe_tup (pa_cons pe_str (pa_cons pe_str pa_nil))) pa_nil))) pa_nil)))) (pv 14) (nomark _))
        (pss_one (ps_ret pe_bl))
        pss_nil)
        (pss_cons (ps_set (i := 15) sc__law_one_right.nd rfl (.inl rfl) (pe_meth (pv 0) T.cl_Tree d_Tree_do.at_ G_Tree_do (hr.mono (by decide)) d_Tree_do.b .nil pass0 (pa_cons pe_int (pa_cons (pv 2) (pa_cons (pe_tup (pa_cons pe_str (pa_cons (pe_tup (pa_cons pe_str (pa_cons pe_str pa_nil))) (pa_cons pe_int pa_nil)))) pa_nil)))))
        (pss_cons (ps_if (PW.pt (pw_or (pt_cmpR op_ne (pe_ix (k_ixt (K := K)) (pv 15) pe_int (fun _ _ => rfl)) (pe_call G__law_due (hr.mono (by decide)) (by rfl) d__law_due.g d__law_due.F.kp d__law_due.b .nil pass0 (pa_cons (pe_and (pv 10) (pe_one (pv 13))) pa_nil)) (nomark _)) (pw_or1 (PW.pt (pw_and (pt_cmpR op_eq (pe_ix (k_ixt (K := K)) (pv 15) pe_int (fun _ _ => rfl)) pe_str (nomark _)) (pw_and1 (pt_cmpR (k_neD (K := K) hr.units) (pv 15) (pe_tup (pa_cons pe_str (pa_cons pe_str pa_nil))) (nomark _))))))))
        (pss_one (ps_ret pe_bl))
        pss_nil)
        (pss_cons (ps_set (i := 14) sc__law_one_right.nd rfl (.inl rfl) (pe_ix (k_ixl (K := K)) (pe_lst (pa_cons (pe_tup (pa_cons pe_str (pa_cons (pe_tup (pa_cons (pe_tup (pa_cons pe_str (pa_cons pe_str pa_nil))) pa_nil)) pa_nil))) (pa_cons (pe_tup (pa_cons pe_str (pa_cons pe_str pa_nil))) pa_nil))) (pe_callTy call_int1 (by rfl) T.int (by decide +kernel) (pa_cons (pe_not (pv 10)) pa_nil)) (fun _ _ => rfl)))
        (pss_cons (ps_if (pt_cmpR (k_neD (K := K) hr.units) (pe_meth (pv 0) T.cl_Tree d_Tree_do.at_ G_Tree_do (hr.mono (by decide)) d_Tree_do.b .nil pass0 (pa_cons pe_int (pa_cons (pv 2) (pa_cons (pe_tup (pa_cons pe_str (pa_cons (pe_tup (pa_cons pe_str pa_nil)) pa_nil))) pa_nil)))) (pv 14) (nomark _))
        (pss_one (ps_ret pe_bl))
        pss_nil)
        (pss_cons (ps_set (i := 15) sc__law_one_right.nd rfl (.inl rfl) (pe_meth (pv 0) T.cl_Tree d_Tree_do.at_ G_Tree_do (hr.mono (by decide)) d_Tree_do.b .nil pass0 (pa_cons pe_int (pa_cons (pv 2) (pa_cons (pe_tup (pa_cons pe_str (pa_cons (pe_tup (pa_cons pe_str (pa_cons pe_str pa_nil))) pa_nil))) pa_nil)))))
        (pss_cons (ps_if (PW.pt (pw_or (pt_cmpR op_ne (pe_ix (k_ixt (K := K)) (pv 15) pe_int (fun _ _ => rfl)) (pe_call G__law_due (hr.mono (by decide)) (by rfl) d__law_due.g d__law_due.F.kp d__law_due.b .nil pass0 (pa_cons (pv 11) pa_nil)) (nomark _)) (pw_or1 (PW.pt (pw_and (pt_cmpR op_eq (pe_ix (k_ixt (K := K)) (pv 15) pe_int (fun _ _ => rfl)) pe_str (nomark _)) (pw_and1 (pt_cmpR (k_neD (K := K) hr.units) (pv 15) (pe_tup (pa_cons pe_str (pa_cons pe_str pa_nil))) (nomark _))))))))
        (pss_one (ps_ret pe_bl))
        pss_nil)
        (pss_cons (ps_set (i := 15) sc__law_one_right.nd rfl (.inl rfl) (pe_meth (pv 0) T.cl_Tree d_Tree_do.at_ G_Tree_do (hr.mono (by decide)) d_Tree_do.b .nil pass0 (pa_cons pe_int (pa_cons (pv 2) (pa_cons (pe_tup (pa_cons pe_str (pa_cons (pe_tup (pa_cons pe_str (pa_cons pe_str pa_nil))) pa_nil))) pa_nil)))))
        (pss_one (ps_ret (pe_and (pe_cmpR op_eq (pe_ix (k_ixt (K := K)) (pv 15) pe_int (fun _ _ => rfl)) (pe_call G__law_due (hr.mono (by decide)) (by rfl) d__law_due.g d__law_due.F.kp d__law_due.b .nil pass0 (pa_cons (pv 11) pa_nil)) (nomark _)) (pe_one (pe_or (pv 11) (pe_one (pe_cmpR (k_eqD (K := K) hr.units) (pv 15) (pe_tup (pa_cons pe_str (pa_cons pe_str pa_nil))) (nomark _)))))))))))))))))))), ?_⟩
      obtain ⟨ta, tvs, rfl, nta, hta, hts⟩ := htv.lstAt
      refine q_new (z := z) hz fun p hn b1 => ?_
      obtain ⟨nta1, hta1⟩ := b1.at hn nta hta
      refine q_forLG (z := z.add p) (xs := tvs) b1.rz (ev_lstv2 rfl nta1 hta1) fun H1 r1 => ?_
      have b2 := b1.go hn hz r1
      refine ⟨fun i σ' H' => (z.add p).W H1 H' ∧ ∃ o5 o6 o7 o8, Bl z p H H' (([t0, t1].take i).map (rowB fo person)) ∧ σ' = [some (.ref t), some v, some (.str person), some (.ref ta), some (.ref p), o5, o6, o7, o8, none, none, none, none, none, none, none],
        ⟨.refl, none, none, none, none, b2, rfl⟩, fun i σ' H' hP => hP.1, fun i x σ' H' hx hP => ?_, fun σ' H' hP => ?_⟩
      · obtain ⟨w3, o5, o6, o7, o8, b3, rfl⟩ := hP
        obtain ⟨d, hd, dv⟩ := hts.at hx
        have hi2 : i < 2 := by
          have h1 := (List.getElem?_eq_some_iff.mp hx).1
          have h2 : tvs.length = 2 := hts.len
          omega
        obtain ⟨th, hth, hdt, htk⟩ : ∃ th, ([t0, t1] : List Th)[i]? = some th ∧ d = thD th ∧ ThOk th := by
          match i, hd with
          | 0, hd => cases hd; exact ⟨t0, rfl, rfl, ht0⟩
          | 1, hd => cases hd; exact ⟨t1, rfl, rfl, ht1⟩
        subst hdt
        obtain ⟨pa, pvs, rfl, npa, hpa, hpd⟩ := (b3.du hn dv).tupAt
        obtain ⟨x1, x2, x3, rfl, k1, k2, k3⟩ := DUA.tri hpd
        have e1 := DU.strAt k1
        have e2 := DU.strAt k2
        subst e1
        subst e2
        have hv3 := b3.du hn hv
        obtain ⟨hRr, hRb⟩ := th_rights htk
        have hk : mayT fo person = fun c (th : Th) => letB fo person c th.lo th.cl th.a th.b th.d := by
          funext c th
          exact may_let2 hgS
        refine ⟨pa, [.str th.lo, .str th.cl, x3], rfl, .inl (.inl hpa), rfl, .str th.lo, [.str th.cl, x3], rfl, .str th.cl, [x3], rfl, x3, [], rfl, rfl, ?_⟩
        refine q_set (z := z.add p) (i := 8) (φ := Dd (z.add p) (rowB fo person th)) b3.rz ?_ fun v8 H4 r4 f4 => ?_
        · refine (ev_lc (P := (· = 2)) (φ := fun i w _ => w = .bl (mayT fo person (sgN i) th)) (ei_lst (xs := [.str "r", .str "w"]) (ev_lst (ea_is ev_k (ea_is ev_k ea_nil)) fun vs H' e => by rw [e]; exact (show 2 ≤ 100000 by decide))) (fun n h => by omega) (by intro _; rfl) fun n' i' x D H5 hn' hi' hxx hD r5 rD => ?_).imp ?_
          · obtain ⟨rfl, hsg⟩ := sg_at hxx
            refine ev_callN (Φ := fun us _ => us = [v, .str person, .str ⟨#[sgN i']⟩]) (Ψ := fun us _ => us = [.str th.lo, .str th.cl, x3]) (ea_is (ev_is rfl) (ea_is (ev_is rfl) (ea_is (ev_is rfl) ea_nil))) (fun vs H1 r _ => ea_is (ev_is rfl) (ea_is (ev_is rfl) (ea_is (ev_is rfl) ea_nil))) fun us zs H6 r6 e1 e2 => ?_
            subst e1
            subst e2
            refine ⟨rfl, rfl, fun Q0 q0 => ⟨(z.add p).add D, v, x3, fo, person, th.lo, th.cl, th.a, th.b, th.d, sgN i', rfl, r6.dr, (hv3.add hD r5.w).w r6.w, (k3.add hD r5.w).w r6.w, hgo.1, hgo.2, hperson, hsg, htk.1, htk.2.1, hRr, hRb, fun H'' r' => q0 _ H'' r' fun _ _ => rfl⟩⟩
          · rintro v' H' _ ⟨p', ws', e, nu, hp', h1, h2⟩
            rw [e, show rowB fo person th = .list [.bool (mayT fo person 114 th), .bool (mayT fo person 119 th)] from rfl]
            refine .lst nu hp' ?_
            rw [two_bl (f := fun i => .bl (mayT fo person (sgN i) th)) h1 h2]
            exact .cons (.bl _) (.one (.bl _))
        have hv8 : DU (z.add p).U H4 v8 (rowB fo person th) := f4 H4 .refl
        have b4 := b3.go hn hz r4
        have hv4 := hv3.w r4.w
        have k34 := k3.w r4.w
        refine q_if (z := z.add p) (b := false) r4.dr (et_to (et_test (ev_neD (d := rowB fo person th) (e := rowB fo person th) (ev_var rfl fun H' w => hv8.w w) (fun H5 r5 => ?_) rfl rfl sh_row sh_row)) (by rw [eqv_row]; rfl)) (fun hb => by cases hb) fun _ H5 r5 => ?_
        · refine (ev_lc (P := (· = 2)) (φ := fun i w _ => w = .bl (mayT fo person (sgN i) th)) (ei_lst (xs := [.str "r", .str "w"]) (ev_lst (ea_is ev_k (ea_is ev_k ea_nil)) fun vs H' e => by rw [e]; exact (show 2 ≤ 100000 by decide))) (fun n h => by omega) (by intro _; rfl) fun n' i' x D H6 hn' hi' hxx hD r6 rD => ?_).imp ?_
          · obtain ⟨rfl, hsg⟩ := sg_at hxx
            refine ev_call (ea_is (ev_is rfl) (ea_is (ev_is rfl) (ea_is (ev_is rfl) (ea_is (ev_is rfl) (ea_is (ev_is rfl) (ea_is (ev_is rfl) ea_nil)))))) fun us H8 r8 e Q0 q0 => ?_
            subst e
            exact ⟨(z.add p).add D, v, x3, fo, person, th.lo, th.cl, th.a, th.b, th.d, sgN i', rfl, r8.dr, (((hv4.w r5.w).add hD r6.w)).w r8.w, ((k34.w r5.w).add hD r6.w).w r8.w, hfl, fun H' r' => by
              have e2 : letB fo person (sgN i') th.lo th.cl th.a th.b th.d = mayT fo person (sgN i') th := (may_let2 hgS).symm
              rw [e2]
              exact q0 _ H' r' fun _ _ => rfl⟩
          · rintro v' H' _ ⟨p', ws', e, nu, hp', h1, h2⟩
            rw [e, show rowB fo person th = .list [.bool (mayT fo person 114 th), .bool (mayT fo person 119 th)] from rfl]
            refine .lst nu hp' ?_
            rw [two_bl (f := fun i => .bl (mayT fo person (sgN i) th)) h1 h2]
            exact .cons (.bl _) (.one (.bl _))
        have b5 := b4.go hn hz r5
        refine bl_app (D := { nx := _, ct := _, bk := _, rt := _ }) (d := rowB fo person th) b5 hn hz (ev_is rfl) (fun H6 r6 => ev_var rfl fun H' w => ((hv8.w r5.w).w r6.w).w w) (by rw [List.length_map, List.length_take]; exact Nat.le_trans (Nat.min_le_right _ _) (show 2 ≤ 100000 by decide)) fun H7 w7 b7 => ?_
        refine ⟨((w3.tr r4.w).tr r5.w).tr w7, _, _, _, _, ?_, rfl⟩
        rw [List.take_add_one, hth, List.map_append]
        exact b7
      · obtain ⟨w3, o5, o6, o7, o8, b3, rfl⟩ := hP
        rw [show tvs.length = 2 from hts.len] at b3
        obtain ⟨pl, lvs, epl, npl, hpl, hld⟩ := (b3.list hn hz).lstAt
        cases epl
        obtain ⟨r0, r1', rfl, d0, d1⟩ := DUA.two hld
        obtain ⟨a0, v0, rfl, na0, ha0, hd0⟩ := DU.lstAt (show DU z.U H' r0 (.list [.bool (mayT fo person 114 t0), .bool (mayT fo person 119 t0)]) from d0)
        obtain ⟨a1, v1, rfl, na1, ha1, hd1⟩ := DU.lstAt (show DU z.U H' r1' (.list [.bool (mayT fo person 114 t1), .bool (mayT fo person 119 t1)]) from d1)
        obtain ⟨y1, y2, rfl, e1, e2⟩ := DUA.two hd0
        obtain ⟨y3, y4, rfl, e3, e4⟩ := DUA.two hd1
        cases e1
        cases e2
        cases e3
        cases e4
        refine ⟨.ref p, rfl, p, _, rfl, .inl (.inl hpl), rfl, _, _, rfl, ⟨a0, _, rfl, .inl (.inl ha0), rfl, _, _, rfl, _, _, rfl, rfl, _, _, rfl, ⟨a1, _, rfl, .inl (.inl ha1), rfl, _, _, rfl, _, _, rfl, rfl, rfl, ?_⟩⟩⟩
        have r0 : z.R H H' := b3.r
        have hT0 := hT.go r0.w
        have hc0 := hc.go r0
        generalize hth : mayT fo person 114 t0 = th
        generalize hmk : mayT fo person 119 t0 = mk
        generalize hrd : mayT fo person 114 t1 = rd
        generalize hwr : mayT fo person 119 t1 = wr
        have kl : ∀ {N : NMap}, (∀ a n, N a = some n → n.kids.length ≤ 8 ∧ n.ps = []) → ∀ a n, N a = some n → n.kids.length < 64 := fun h a n e => by
          have := (h a n e).1
          omega
        -- read
        refine q_set (z := z) (i := 14) (φ := Dd z (if (th && rd) = true then toldD (.tuple []) else noD "noright")) r0.dr (ev_ixDL (ds := [toldD (.tuple []), noD "noright"]) (j := if (th && rd) then 0 else 1) (ed_lst (ed_cons (ed_tup (ed_cons (ed_k fun _ => .str _) fun _ _ => ed_cons (ed_tup ed_nil (by decide)) fun _ _ => ed_nil) (by decide)) fun _ _ => ed_cons (ed_tup (ed_cons (ed_k fun _ => .str _) fun _ _ => ed_cons (ed_k fun _ => .str _) fun _ _ => ed_nil) (by decide)) fun _ _ => ed_nil) (by decide)) (fun H1 r1 => ev_to (ev_int1 (b := !(th && rd)) (ev_not (ev_and (ev_is rfl) fun _ => ev_is rfl))) (by cases th <;> cases rd <;> rfl)) (by cases th <;> cases rd <;> rfl)) fun v14 H1 r1 f1 => ?_
        have hv14 := f1 H1 .refl
        have r01 := r0.tr r1
        refine q_ifNe (do_run (z := z) (c := c) (co := co) (N := N) (ok := okAll) (e := .read ["d", "f"]) (when_ := 1) (user := person) r1.dr (hT0.go r1.w) (hc0.go r1) (ev_is rfl) (fun _ _ => da3 ev_k (ev_is rfl) (ed_tup (ed_cons (ed_k fun _ => .str _) fun _ _ => ed_cons (ed_tup (ed_cons (ed_k fun _ => .str _) fun _ _ => ed_cons (ed_k fun _ => .str _) fun _ _ => ed_nil) (by decide)) fun _ _ => ed_nil) (by decide))) hclk hperson (.inr (.inr (.inr (.inr rfl)))) pok2 (fun a n e _ => (W0.all hW a n e).2) (kl (W0.all hW)) fun z2 H2 N2 d2 v2 s2 hc2 hres2 hd2 => ?_)
        obtain ⟨hW2, ed2⟩ := W0.read hW hres2
        rw [hth, hrd] at ed2
        subst ed2
        refine ⟨v14, rfl, _, _, DK.at hd2, DU.dp (s2.du hv14) (pd_if (P := fun d => d.hasDict = false) rfl rfl), pd_if (P := fun d => SeqAt.shaped d = true) (by decide +kernel) (by decide +kernel), pd_if (P := fun d => SeqAt.shaped d = true) (by decide +kernel) (by decide +kernel), false, ?_, ?_⟩
        · rw [eqv_if (by decide +kernel) (by decide +kernel)]
          rfl
        rw [if_neg (by decide)]
        have r2 : z2.R H2 H2 := s2.r
        have hT2 := (hT0.go r1.w).step s2
        have sA := Step.trc hz (Step.of_R chg_su r01) (s2.weak (fun a o => (hc0.go r1).chg o) chg_su)
        -- cut
        refine q_asgM (do_run (z := z2) (c := c) (co := { co with clock := 1 }) (N := N2) (ok := okAll) (e := .cut ["d", "f"] 0) (when_ := 1) (user := person) r2 hT2 hc2 (ev_is rfl) (fun _ _ => da3 ev_k (ev_is rfl) (ed_tup (ed_cons (ed_k fun _ => .str _) fun _ _ => ed_cons (ed_tup (ed_cons (ed_k fun _ => .str _) fun _ _ => ed_cons (ed_k fun _ => .str _) fun _ _ => ed_nil) (by decide)) fun _ _ => ed_cons (ed_k fun _ => .int _) fun _ _ => ed_nil) (by decide))) (Int.le_refl _) hperson (.inr (.inr (.inr (.inl ⟨_, _, rfl⟩)))) ⟨pok2, Int.le_refl _⟩ (fun a n e => by rw [(W0.all hW2 a n e).2]; exact Nat.zero_le _) (kl (W0.all hW2)) fun z3 H3 N3 d3 v3 s3 hc3 hres3 hd3 => ?_)
        obtain ⟨hW3, ed3⟩ := W0.cut hW2 hres3
        rw [hth, hwr, ans_of] at ed3
        subst ed3
        have r3 : z3.R H3 H3 := s3.r
        have hT3 := hT2.step s3
        have sB := Step.trc hz sA (s3.weak (fun a o => hc2.chg o) chg_su)
        refine q_if (z := z3) (b := false) r3.dr (et_to (et_or (a := false) (b := false) (et_test (ev_to (ev_ne (ev_ixKS (ds := .str (if th && wr then "done" else "no") :: (if th && wr then [] else [.str "noright"])) (x := if th && wr then "done" else "no") (j := 0) (ev_var rfl fun H' w => hd3.w (z := z3) w) (fun _ _ => ev_k) rfl) (ev_call (Φ := fun us _ => us = [.bl (th && wr)]) (ea_is (ev_and (ev_is rfl) fun _ => ev_is rfl) ea_nil) fun us Hx rx ex Q0 q0 => ⟨z3, th && wr, by rw [ex]; rfl, rx.dr, fun H' r' => q0 _ H' r' fun _ _ => rfl⟩) rfl) (by rw [decide_eq_true rfl]; rfl))) fun _ => et_to (et_and (a := !(th && wr)) (b := false) (et_test (ev_to (ev_eq (ev_ixKS (ds := .str (if th && wr then "done" else "no") :: (if th && wr then [] else [.str "noright"])) (x := if th && wr then "done" else "no") (j := 0) (ev_var rfl fun H' w => hd3.w (z := z3) w) (fun _ _ => ev_k) rfl) ev_k rfl) (no_dec _))) fun hf => et_test (ev_to (ev_neK (d := ansD (th && wr)) (e := noD "noright") (ev_var rfl fun H' w => hd3.w (z := z3) w) (fun _ _ => (ed_tup (ed_cons (ed_k fun _ => .str _) fun _ _ => ed_cons (ed_k fun _ => .str _) fun _ _ => ed_nil) (by decide)).imp fun v H' _ f => DU.dk (d := noD "noright") f rfl) (sh_ans _) (by decide +kernel)) (eqv_no _ hf))) (by cases th && wr <;> rfl)) rfl) (fun hb => by cases hb) fun _ H4 r4' => ?_

        -- list
        refine q_set (z := z3) (i := 14) (φ := Dd z3 (if th = true then toldD (.tuple [.tuple [.str "f", .str "file"]]) else noD "noright")) r4'.dr (ev_ixDL (ds := [toldD (.tuple [.tuple [.str "f", .str "file"]]), noD "noright"]) (j := if th then 0 else 1) (ed_lst (ed_cons (ed_tup (ed_cons (ed_k fun _ => .str _) fun _ _ => ed_cons (ed_tup (ed_cons (ed_tup (ed_cons (ed_k fun _ => .str _) fun _ _ => ed_cons (ed_k fun _ => .str _) fun _ _ => ed_nil) (by decide)) fun _ _ => ed_nil) (by decide)) fun _ _ => ed_nil) (by decide)) fun _ _ => ed_cons (ed_tup (ed_cons (ed_k fun _ => .str _) fun _ _ => ed_cons (ed_k fun _ => .str _) fun _ _ => ed_nil) (by decide)) fun _ _ => ed_nil) (by decide)) (fun H1 r1 => ev_to (ev_int1 (b := !th) (ev_not (ev_is rfl))) (by cases th <;> rfl)) (by cases th <;> rfl)) fun v14' H5 r5 f5 => ?_
        have hv14' := f5 H5 .refl
        have r35 := r4'.tr r5
        have hT5 := hT3.go r35.w
        have hc5 := hc3.go r35
        refine q_ifNe (do_run (z := z3) (c := c) (co := { co with clock := 1 }) (N := N3) (ok := okAll) (e := .list ["d"]) (when_ := 1) (user := person) r5.dr hT5 hc5 (ev_is rfl) (fun _ _ => da3 ev_k (ev_is rfl) (ed_tup (ed_cons (ed_k fun _ => .str _) fun _ _ => ed_cons (ed_tup (ed_cons (ed_k fun _ => .str _) fun _ _ => ed_nil) (by decide)) fun _ _ => ed_nil) (by decide))) (Int.le_refl _) hperson (.inr (.inr (.inr (.inr rfl)))) pok1 trivial (kl (W0.all hW3)) fun z6 H6 N6 d6 v6 s6 hc6 hres6 hd6 => ?_)
        obtain ⟨hW6, ed6⟩ := W0.list hW3 hres6
        rw [hth] at ed6
        subst ed6
        refine ⟨v14', rfl, _, _, DK.at hd6, DU.dp (s6.du hv14') (pd_if (P := fun d => d.hasDict = false) rfl rfl), pd_if (P := fun d => SeqAt.shaped d = true) (by decide +kernel) (by decide +kernel), pd_if (P := fun d => SeqAt.shaped d = true) (by decide +kernel) (by decide +kernel), false, ?_, ?_⟩
        · rw [eqv_if (by decide +kernel) (by decide +kernel)]
          rfl
        rw [if_neg (by decide)]
        have r6 : z6.R H6 H6 := s6.r
        have hT6 := hT5.step s6
        have sC := Step.trc hz sB (Step.trc r3 (Step.of_R chg_su r35) (s6.weak (fun a o => hc5.chg o) chg_su))
        -- a file is made
        refine q_asgM (do_run (z := z6) (c := c) (co := { co with clock := 1 }) (N := N6) (ok := okAll) (e := .make false ["d", "g"]) (when_ := 1) (user := person) r6 hT6 hc6 (ev_is rfl) (fun _ _ => da3 ev_k (ev_is rfl) (ed_tup (ed_cons (ed_k fun _ => .str _) fun _ _ => ed_cons (ed_tup (ed_cons (ed_k fun _ => .str _) fun _ _ => ed_cons (ed_k fun _ => .str _) fun _ _ => ed_nil) (by decide)) fun _ _ => ed_nil) (by decide))) (Int.le_refl _) hperson (.inl ⟨_, _, rfl⟩) pok3 trivial (kl (W0.all hW6)) fun z7 H7 N7 d7 v7 s7 hc7 hres7 hd7 => ?_)
        have hM := W0.make hW6 hres7
        rw [hmk] at hM
        have ed7 : d7 = ansD mk := by
          rcases hM with ⟨e1, e2, _⟩ | ⟨e1, e2, _⟩
          · rw [e1]; exact e2
          · rw [e1]; exact e2
        have all7 : ∀ a n, N7 a = some n → n.kids.length ≤ 8 ∧ n.ps = [] := hM.elim (fun h => W1.all h.2.2) fun h => W0.all h.2.2
        have pre7 : Pre fo co.top person N7 (.strike ["d", "g"]) := hM.elim (fun h => W1.pre h.2.2) fun h => W0.pre h.2.2
        subst ed7
        have r7 : z7.R H7 H7 := s7.r
        have hT7 := hT6.step s7
        have sD := Step.trc hz sC (s7.weak (fun a o => hc6.chg o) chg_su)
        refine q_if (z := z7) (b := false) r7.dr (et_to (et_or (a := false) (b := false) (et_test (ev_to (ev_ne (ev_ixKS (ds := .str (if mk then "done" else "no") :: (if mk then [] else [.str "noright"])) (x := if mk then "done" else "no") (j := 0) (ev_var rfl fun H' w => hd7.w (z := z7) w) (fun _ _ => ev_k) rfl) (ev_call (Φ := fun us _ => us = [.bl (mk)]) (ea_is (ev_is rfl) ea_nil) fun us Hx rx ex Q0 q0 => ⟨z7, mk, by rw [ex]; rfl, rx.dr, fun H' r' => q0 _ H' r' fun _ _ => rfl⟩) rfl) (by rw [decide_eq_true rfl]; rfl))) fun _ => et_to (et_and (a := !(mk)) (b := false) (et_test (ev_to (ev_eq (ev_ixKS (ds := .str (if mk then "done" else "no") :: (if mk then [] else [.str "noright"])) (x := if mk then "done" else "no") (j := 0) (ev_var rfl fun H' w => hd7.w (z := z7) w) (fun _ _ => ev_k) rfl) ev_k rfl) (no_dec _))) fun hf => et_test (ev_to (ev_neK (d := ansD (mk)) (e := noD "noright") (ev_var rfl fun H' w => hd7.w (z := z7) w) (fun _ _ => (ed_tup (ed_cons (ed_k fun _ => .str _) fun _ _ => ed_cons (ed_k fun _ => .str _) fun _ _ => ed_nil) (by decide)).imp fun v H' _ f => DU.dk (d := noD "noright") f rfl) (sh_ans _) (by decide +kernel)) (eqv_no _ hf))) (by cases mk <;> rfl)) rfl) (fun hb => by cases hb) fun _ H8 r8' => ?_

        -- .. and struck
        refine q_asgM (do_run (z := z7) (c := c) (co := { co with clock := 1 }) (N := N7) (ok := okAll) (e := .strike ["d", "g"]) (when_ := 1) (user := person) r8'.dr (hT7.go r8'.w) (hc7.go r8') (ev_is rfl) (fun _ _ => da3 ev_k (ev_is rfl) (ed_tup (ed_cons (ed_k fun _ => .str _) fun _ _ => ed_cons (ed_tup (ed_cons (ed_k fun _ => .str _) fun _ _ => ed_cons (ed_k fun _ => .str _) fun _ _ => ed_nil) (by decide)) fun _ _ => ed_nil) (by decide))) (Int.le_refl _) hperson (.inr (.inl ⟨_, rfl⟩)) pok3 pre7 (kl all7) fun z9 H9 N9 d9 v9 s9 hc9 hres9 hd9 => ?_)
        have hS : d9 = ansD mk ∧ W0 t0 t1 N9 co.top := by
          rcases hM with ⟨e1, _, h⟩ | ⟨e1, _, h⟩
          · subst e1
            exact W1.strike h hmk hres9
          · subst e1
            exact W0.strike h hmk hres9
        obtain ⟨ed9, hW9⟩ := hS
        subst ed9
        have sE := Step.trc hz sD (Step.trc r7 (Step.of_R chg_su r8') (s9.weak (fun a o => (hc7.go r8').chg o) chg_su))
        refine s_ret (z := z9) (φ := Is (.bl true)) s9.r (ev_to (ev_and (a := true) (b := true) (ev_to (ev_eq (ev_ixKS (ds := .str (if mk then "done" else "no") :: (if mk then [] else [.str "noright"])) (x := if mk then "done" else "no") (j := 0) (ev_var rfl fun H' w => hd9.w (z := z9) w) (fun _ _ => ev_k) rfl) (ev_call (Φ := fun us _ => us = [.bl mk]) (ea_is (ev_is rfl) ea_nil) fun us Hx rx ex Q0 q0 => ⟨z9, mk, by rw [ex]; rfl, rx.dr, fun H' r' => q0 _ H' r' fun _ _ => rfl⟩) rfl) (by rw [decide_eq_true rfl])) fun _ => ev_to (ev_or (a := mk) (b := true) (ev_is rfl) fun hf => ev_to (ev_eqK (d := ansD mk) (e := noD "noright") (ev_var rfl fun H' w => hd9.w (z := z9) w) (fun _ _ => (ed_tup (ed_cons (ed_k fun _ => .str _) fun _ _ => ed_cons (ed_k fun _ => .str _) fun _ _ => ed_nil) (by decide)).imp fun v H' _ f => DU.dk (d := noD "noright") f rfl) (sh_ans _) (by decide +kernel)) (by rw [hf]; rfl)) (by cases mk <;> rfl)) rfl) fun v' Ha ra f => ?_
        have e := f Ha .refl
        subst e
        exact q z9 Ha { co with clock := 1 } N9 (Step.trc hz sE (Step.of_R chg_su ra)) (hc9.go ra) (Int.le_refl _) rfl hW9)]
  intro b q h; simpa using FB.pinF b h
  eq_refl
end
end K05
set_option Elab.async false
set_option linter.all false
set_option maxRecDepth 100000
set_option maxHeartbeats 4000000
namespace K05
open PySem PySem.Spec PyProof.Rows L2 FB RZ
section
variable {P : Program} {w : World} {K : PySem.W.Frag} {mg : Str → Option Value} {base : Heap} {cs : Cs} {A_ : As}
def RowOk5 (p : Str × List Str) : Prop := isW p.1 = true ∧ p.2.length ≤ 5 ∧ grS p.2 = true ∧ ∀ u ∈ p.2, isW u = true
def FoD5 (fo : Fo) : Prop := fo.length ≤ 4 ∧ grS (fo.map (·.1)) = true ∧ ∀ p ∈ fo, RowOk5 p
theorem FoDr.up {fo : Fo} (h : FoDr fo) : FoD5 fo := ⟨h.1, h.2.1, fun p hp => let r := h.2.2 p hp; ⟨r.1, Nat.le_succ_of_le r.2.1, r.2.2.1, r.2.2.2⟩⟩
theorem isW_le {x : Str} (h : isW x = true) : x.length ≤ 1000 := Nat.le_trans (isW_txs h).1 (by decide)
theorem row_grp5 {p : Str × List Str} (h : RowOk5 p) : isGroupD (rowG p) = true := by
  refine' @FB.also _ _ ?_ ?_ ?_; rotate_left
  · intro wit__; simp only [↓FB.viaW wit__ (by
      clear wit__
      show (true && (isW p.1 && ((p.2.map PyData.str).all isWordD && grS ((p.2.map PyData.str).map sD)))) = true
      rw [h.1, sD_strs, h.2.2.1, List.all_map]
      have : p.2.all (isWordD ∘ PyData.str) = true := List.all_eq_true.mpr fun u hu => h.2.2.2 u hu
      rw [this]
      rfl)]
  intro b q h; simpa using FB.pinF b h
  eq_refl
theorem fo_groups {fo : Fo} (h : FoD5 fo) : GroupsOk fo := by
  refine' @FB.also _ _ ?_ ?_ ?_; rotate_left
  · intro wit__; simp only [↓FB.viaW wit__ (by
      clear wit__
      constructor
      · show (decide ((fo.map rowG).length ≤ 8) && ((fo.map rowG).all isGroupD && grS ((fo.map rowG).map nameD))) = true
        have e1 : (fo.map rowG).map nameD = fo.map (·.1) := by
          rw [List.map_map]
          rfl
        have e2 : (fo.map rowG).all isGroupD = true := List.all_eq_true.mpr fun d hd => by
          obtain ⟨p, hp, rfl⟩ := List.mem_map.mp hd
          exact row_grp5 (h.2.2 p hp)
        rw [e1, e2, h.2.1, decide_eq_true (show (fo.map rowG).length ≤ 8 by rw [List.length_map]; have := h.1; omega)]
        rfl
      · refine ⟨fun x e => (by cases e), fun ds e => ?_⟩
        injection e with e
        subst e
        refine ⟨by rw [List.length_map]; have := h.1; omega, fun d hd => ?_⟩
        obtain ⟨p, hp, rfl⟩ := List.mem_map.mp hd
        obtain ⟨r1, r2, r3, r4⟩ := h.2.2 p hp
        refine ⟨fun x e => (by cases e), fun ds e => ?_⟩
        injection e with e
        subst e
        refine ⟨(show 2 ≤ 60 by decide), fun d hd => ?_⟩
        simp only [List.mem_cons, List.not_mem_nil, or_false] at hd
        rcases hd with rfl | rfl
        · exact bd_str (isW_le r1)
        · refine ⟨fun x e => (by cases e), fun ds e => ?_⟩
          injection e with e
          subst e
          refine ⟨by rw [List.length_map]; omega, fun d hd => ?_⟩
          obtain ⟨u, hu, rfl⟩ := List.mem_map.mp hd
          exact bd_str (isW_le (r4 u hu)))]
  intro b q h; simpa using FB.pinF b h
  eq_refl
theorem gr_nodup : ∀ {l : List Str}, grS l = true → l.Nodup
  | [], _ => List.nodup_nil
  | x :: l, g => by
    refine List.nodup_cons.mpr ⟨fun h => ?_, gr_nodup (gr_tl g)⟩
    have := gr_lt (x := x) (l := l) g x h
    rw [ltS_irr] at this
    cases this
theorem FoD5.ok {fo : Fo} (h : FoD5 fo) : FoOk fo := ⟨gr_nodup h.2.1, by have := h.1; omega⟩
theorem rows_of {U : Addr → Prop} {H : Hp} {R : Str × List Str → Prop} : ∀ {ws : List V} {fo : Fo}, ws.length = fo.length → (∀ (i : Nat) w, ws[i]? = some w → ∃ p p', fo[i]? = some p ∧ DU U H w (rowG p') ∧ p'.1 = p.1 ∧ R p') → ∃ fo2 : Fo, DUA U H ws (fo2.map rowG) ∧ fo2.map (·.1) = fo.map (·.1) ∧ ∀ p ∈ fo2, R p
  | [], [], _, _ => ⟨[], .nil, rfl, fun _ h => by cases h⟩
  | v :: vs, q :: r, hl, h => by
    obtain ⟨p, p', e1, d, e2, hr⟩ := h 0 v rfl
    cases e1
    obtain ⟨fo2, h1, h2, h3⟩ := rows_of (ws := vs) (fo := r) (by injection hl) fun i w hw => h (i + 1) w hw
    refine ⟨p' :: fo2, .cons d h1, ?_, fun x hx => ?_⟩
    · show p'.1 :: fo2.map (·.1) = q.1 :: r.map (·.1)
      rw [e2, h2]
    · rcases List.mem_cons.mp hx with rfl | hx
      · exact hr
      · exact h3 x hx
  | [], _ :: _, hl, _ => by cases hl
  | _ :: _, [], hl, _ => by cases hl
theorem rw_of {a : Str} (h : a ∈ texts4) : rwT a := by
  refine' @FB.also _ _ ?_ ?_ ?_; rotate_left
  · intro wit__; simp only [↓FB.viaW wit__ (by
      clear wit__
      simp only [texts4, List.mem_cons, List.not_mem_nil, or_false] at h
      exact h)]
  intro b q h; simpa using FB.pinF b h
  eq_refl
theorem zz_w : isW "zz" = true := by decide +kernel
/-- a person's turn goes on where the tree stands -/
theorem one_run {z : Zn} {σ : L2.St} {H : Hp} {targs : TA} {E : XK} {t dt pc c : Addr} {co : Co} {fo : Fo} {ws : List V} {N : NMap} {v tv : V} {person : Str} {t0 t1 : Th} {Q : VK} (hz : z.R H H) (hT : TreeAt cs.Tree z H t dt c pc) (hc : CoFull K cs.Folder cs.File cs.Core z H c co fo ws N) (hclk : co.clock ≤ 1) (hW : W0 t0 t1 N co.top)
    (hv : DU z.U H v (grpD fo)) (hfo : FoD5 fo) (htv : DU z.U H tv (.list [thD t0, thD t1])) (ht0 : ThOk t0) (ht1 : ThOk t1) (hp : isW person = true) (ha : ∀ Q : List V → Hp → Prop, Q [.ref t, v, .str person, tv] H → targs σ H Q)
    (k : ∀ z' H' co' N', Step (chg z) z H z' H' → CoFull K cs.Folder cs.File cs.Core z' H' c co' fo ws N' → co'.clock ≤ 1 → co'.top = co.top → W0 t0 t1 N' co.top → Q (.bl true) H') : tCall (spOne K cs) [] E targs σ H Q := by
  refine' @FB.also _ _ ?_ ?_ ?_; rotate_left
  · intro wit__; simp only [↓FB.viaW wit__ (by
      clear wit__
      exact ha _ ⟨z, t, dt, pc, c, co, fo, ws, N, v, tv, person, t0, t1, rfl, hz, hT, hc, hclk, hW, hv, fo_groups hfo, hfo.2.1, by have := hfo.1; omega, htv, ht0, ht1, hp, k⟩)]
  intro b q h; simpa using FB.pinF b h
  eq_refl
theorem ok_law (T : Tx P K mg cs A_) (d_law : Df K mg "law" s_law ["_law_script"]) (d__law_purse : Df K mg "_law_purse" s__law_purse ["_law_script", "_law_k"]) (d__law_people : Df K mg "_law_people" s__law_people ["_law_purse_here"]) (d__law_take : Df K mg "_law_take" s__law_take ["_law_purse_here", "_law_many"])
    (d__law_clubs : Df K mg "_law_clubs" s__law_clubs ["_law_purse_here", "_law_people_here"]) (d__law_grants : Df K mg "_law_grants" s__law_grants ["_law_purse_here"]) (d__law_made : Df K mg "_law_made" s__law_made ["_law_folk", "_law_things"]) (d__law_one_right : Df K mg "_law_one_right" s__law_one_right ["_law_tree", "_law_folk", "_law_person", "_law_things"])
    (G__law_purse : FnOk P w K mg base CX0 1 d__law_purse.f d__law_purse.fd ["_law_script", "_law_k"] (spPurse K)) (G__law_people : FnOk P w K mg base CX0 2 d__law_people.f d__law_people.fd ["_law_purse_here"] spPpl) (G__law_take : FnOk P w K mg base CX0 1 d__law_take.f d__law_take.fd ["_law_purse_here", "_law_many"] spTake)
    (G__law_clubs : FnOk P w K mg base CX0 2 d__law_clubs.f d__law_clubs.fd ["_law_purse_here", "_law_people_here"] spClubs) (G__law_grants : FnOk P w K mg base CX0 2 d__law_grants.f d__law_grants.fd ["_law_purse_here"] (spDat GrD))
    (G__law_made : FnG P w K mg base CX0 11 d__law_made.f d__law_made.fd ["_law_folk", "_law_things"] (spMade K cs)) (G__law_one_right : FnG P w K mg base CX0 11 d__law_one_right.f d__law_one_right.fd ["_law_tree", "_law_folk", "_law_person", "_law_things"] (spOne K cs)) :
    FnG P w K mg base CX0 13 d_law.f d_law.fd ["_law_script"] (spLaw K) := by
  refine' @FB.also _ _ ?_ ?_ ?_; rotate_left
  · intro wit__; simp only [↓FB.viaW wit__ (by
      clear wit__
      refine fng_ok d_law.F sc_law (fun vs H Q E ⟨_, _, e, _⟩ => by rw [e]; rfl) (fun cdv A outer s H vs Q E hg hr h => ?_)
      obtain ⟨a, ns, rfl, hS, hl, q⟩ := h
      refine ⟨_, (pss_cons (ps_for PassesOwn.never rfl (pi_range1 (by rfl) T.range (pa_cons (pe_callB (call_max2 rfl) (by rfl) T.max (by decide +kernel) (pa_cons pe_int (pa_cons (pe_callB (call_min2 rfl) (by rfl) T.min (by decide +kernel) (pa_cons (pe_callB (k_len (K := K)) (by rfl) T.len PySem.boot_len (pa_cons (pv 0) pa_nil)) (pa_cons pe_int pa_nil))) pa_nil))) pa_nil)) (pg_name (i := 1) sc_law.nd rfl (Or.inl rfl))
        (pss_cons (ps_set (i := 2) sc_law.nd rfl (.inl rfl) (pe_call G__law_purse (hr.mono (by decide)) (by rfl) d__law_purse.g d__law_purse.F.kp d__law_purse.b .nil pass0 (pa_cons (pv 0) (pa_cons (pv 1) pa_nil))))
        (pss_cons (ps_set (i := 3) sc_law.nd rfl (.inl rfl) (pe_call G__law_people (hr.mono (by decide)) (by rfl) d__law_people.g d__law_people.F.kp d__law_people.b .nil pass0 (pa_cons (pv 2) pa_nil)))
        (pss_one (ps_for PassesOwn.never rfl (pi_range1 (by rfl) T.range (pa_cons pe_int pa_nil)) (pg_name (i := 4) sc_law.nd rfl (Or.inl rfl))
        (pss_cons (ps_par (i := 5) (j := 6) (by rfl) sc_law.nd rfl rfl (by decide) rfl rfl (pa_cons (pe_call G__law_clubs (hr.mono (by decide)) (by rfl) d__law_clubs.g d__law_clubs.F.kp d__law_clubs.b .nil pass0 (pa_cons (pv 2) (pa_cons (pv 3) pa_nil))) (pa_cons (pe_lst pa_nil) pa_nil)) (by rfl))
        (pss_cons (ps_for PassesOwn.never rfl (pi_range1 (by rfl) T.range (pa_cons pe_int pa_nil)) (pg_name (i := 7) sc_law.nd rfl (Or.inl rfl))
        (pss_cons (ps_set (i := 8) sc_law.nd rfl (.inl rfl) (pe_ix (k_ixl (K := K)) (pe_op op_cat (pv 3) (pe_lst (pa_cons pe_str pa_nil))) (pe_call G__law_take (hr.mono (by decide)) (by rfl) d__law_take.g d__law_take.F.kp d__law_take.b .nil pass0 (pa_cons (pv 2) (pa_cons pe_int pa_nil))) (fun _ _ => rfl)))
        (pss_cons (ps_set (i := 9) sc_law.nd rfl (.inl rfl) (pe_ix (k_ixl (K := K)) (pe_lst (pa_cons pe_str (pa_cons pe_str (pa_cons pe_str (pa_cons pe_str pa_nil))))) (pe_call G__law_take (hr.mono (by decide)) (by rfl) d__law_take.g d__law_take.F.kp d__law_take.b .nil pass0 (pa_cons (pv 2) (pa_cons pe_int pa_nil))) (fun _ _ => rfl)))
        (pss_one (ps_expr (pe_bm PySem.F.plainAttrs_list PySem.F.slot_list_append PySem.F.type_list_append mt_append (pv 6) (pa_cons (pe_tup (pa_cons (pv 8) (pa_cons (pv 9) (pa_cons (pe_call G__law_grants (hr.mono (by decide)) (by rfl) d__law_grants.g d__law_grants.F.kp d__law_grants.b .nil pass0 (pa_cons (pv 2) pa_nil)) pa_nil)))) pa_nil)))))))
        (pss_cons (ps_asg (pe_g G__law_made hg (hr.mono (by decide)) (by rfl) d__law_made.g d__law_made.F.kp d__law_made.b .nil pass0 (pa_cons (pv 5) (pa_cons (pv 6) pa_nil))) (k_pgl (K := K) (n := 2) (pgs_cons (pg_name (i := 10) sc_law.nd rfl (Or.inl rfl)) (pgs_cons (pg_name (i := 11) sc_law.nd rfl (Or.inl rfl)) pgs_nil))))
        (pss_cons (ps_for PassesOwn.never rfl (k_pil (K := K) (pi_list (pe_op op_cat (pv 3) (pe_lst (pa_cons pe_str (pa_cons pe_str pa_nil)))))) (pg_name (i := 12) sc_law.nd rfl (Or.inl rfl))
        (pss_one (ps_if (PW.pt (pw_or (pt_not (pt_val (pv 11))) (pw_or1 (pt_not (pt_val (pe_g G__law_one_right hg (hr.mono (by decide)) (by rfl) d__law_one_right.g d__law_one_right.F.kp d__law_one_right.b .nil pass0 (pa_cons (pv 10) (pa_cons (pv 5) (pa_cons (pv 12) (pa_cons (pv 6) pa_nil))))))))))
        (pss_one (ps_ret pe_bl))
        pss_nil)))
        (pss_cons (ps_set (i := 13) sc_law.nd rfl (.inl rfl) (pe_callTy (k_tuple (K := K)) (by rfl) T.tuple (by decide +kernel) (pa_cons (pe_lc (own := [("_law_clan", 9), ("_law_some", 14)]) (g := gTup K 2 (gCons (gName 9) (gCons (gName 14) gNil))) rfl sc_law.nd  (k_pit (K := K) (pi_tup (pv 5))) (blkOk_by (own := [("_law_clan", 9), ("_law_some", 14)]) (N := ["_law_script", "_law_k", "_law_purse_here", "_law_people_here", "_law_turn", "_law_folk", "_law_things", "_law_thing", "_law_lord", "_law_clan", "_law_tree", "_law_good", "_law_person", "_law_more", "_law_some", "_law_other"]) (sc := defScope s_law) (by decide +kernel)) (fun _ _ _ _ _ => (k_pgt (K := K) (n := 2) (pgs_cons (pg_name (i := 9) sc_law.nd rfl (Or.inl rfl)) (pgs_cons (pg_name (i := 14) sc_law.nd rfl (Or.inl rfl)) pgs_nil)))) (fun _ _ _ _ _ => pts_nil) (fun _ _ _ _ _ => (pe_tup (pa_cons (pv 9) (pa_cons (pe_callTy (k_tuple (K := K)) (by rfl) T.tuple (by decide +kernel) (pa_cons (pe_sortSet (K := K) (by rfl) (by rfl) T.sorted (by rfl) T.set (pe_op (k_catA (K := K)) (pv 14) (pe_tup (pa_cons pe_str pa_nil)))) pa_nil)) pa_nil))))) pa_nil)))
        (pss_cons (ps_asg (pe_g G__law_made hg (hr.mono (by decide)) (by rfl) d__law_made.g d__law_made.F.kp d__law_made.b .nil pass0 (pa_cons (pv 13) (pa_cons (pv 6) pa_nil))) (k_pgl (K := K) (n := 2) (pgs_cons (pg_name (i := 15) sc_law.nd rfl (Or.inl rfl)) (pgs_cons (pg_name (i := 11) sc_law.nd rfl (Or.inl rfl)) pgs_nil))))
        (pss_one (ps_if (PW.pt (pw_or (pt_not (pt_val (pv 11))) (pw_or1 (pt_not (pt_val (pe_g G__law_one_right hg (hr.mono (by decide)) (by rfl) d__law_one_right.g d__law_one_right.F.kp d__law_one_right.b .nil pass0 (pa_cons (pv 15) (pa_cons (pv 13) (pa_cons pe_str (pa_cons (pv 6) pa_nil))))))))))
        (pss_one (ps_ret pe_bl))
        pss_nil)))))))))))))
        (pss_one (ps_ret pe_bl))), ?_⟩
      have hS2 : ∀ {H' : Hp}, z0.R H H' → SqL K H' a (ns.map V.int) := fun r => sql_z0 hS r
      have hn : -1000000 ≤ (if (if (5 : Int) < ((ns.map V.int).length : Int) then (5 : Int) else ((ns.map V.int).length : Int)) > 2 then (if (5 : Int) < ((ns.map V.int).length : Int) then (5 : Int) else ((ns.map V.int).length : Int)) else 2)
          ∧ (if (if (5 : Int) < ((ns.map V.int).length : Int) then (5 : Int) else ((ns.map V.int).length : Int)) > 2 then (if (5 : Int) < ((ns.map V.int).length : Int) then (5 : Int) else ((ns.map V.int).length : Int)) else 2) ≤ 1000000 := by
        split <;> (try split) <;> omega
      refine q_forR (z := z0) (n := (if (if (5 : Int) < ((ns.map V.int).length : Int) then (5 : Int) else ((ns.map V.int).length : Int)) > 2 then (if (5 : Int) < ((ns.map V.int).length : Int) then (5 : Int) else ((ns.map V.int).length : Int)) else 2)) z0r
        (ea_is (ev_max ev_k (ev_min (ev_lenQ (ev_is rfl) fun H1 r => hS2 r) ev_k)) ea_nil) hn (fun i σ' H' => z0.R H H' ∧ ∃ o1 o2 o3 o4 o5 o6 o7 o8 o9 o10 o11 o12 o13 o14 o15, σ' = [some (.ref a), o1, o2, o3, o4, o5, o6, o7, o8, o9, o10, o11, o12, o13, o14, o15])
        (fun H3 r3 => ⟨r3, none, none, none, none, none, none, none, none, none, none, none, none, none, none, none, rfl⟩) (fun k σ' H' hk hP => ?_) (fun σ' H' hP => ?_)
      · obtain ⟨r3, o1, o2, o3, o4, o5, o6, o7, o8, o9, o10, o11, o12, o13, o14, o15, rfl⟩ := hP
        have hk8 : k ≤ 1000 := by
          have h1 : (k : Int) < 6 := by
            refine Int.lt_of_lt_of_le hk ?_
            split <;> (try split) <;> omega
          omega
        refine q_purse (z := z0) (a := a) (ns := ns) (k := k) z0r (ev_is rfl) (ev_is rfl) (fun H1 r => hS2 (r3.tr r)) (by omega) hk8 fun p o H3 H4 rx r4 hp4 _ hpo hpur => ?_
        have ru := zu_r hpo hpur
        refine q_set (z := zu p) (φ := fun v H' => ∃ ps, Ppl ps ∧ Lst (zu p) (fun ws _ => ws = ps.map V.str) v H') ru ?_ fun v3 H5 r5 f5 => ?_
        · refine ev_call (ea_is (ev_is rfl) ea_nil) fun us H5 r5 e Q0 q0 => ?_
          subst e
          exact ⟨zu p, p, rfl, r5.dr, zu_i, fun v ps H' hps r' f => q0 v H' r' fun H3 w => ⟨ps, hps, f H3 w⟩⟩
        obtain ⟨ps, hps, pq, wq, rfl, nuq, hpq, rfl⟩ := f5 H5 .refl
        have hp4' := hps.1
        refine s_forR (z := zu p) (n := 3) r5.dr (ea_is ev_k ea_nil) (by decide) (fun i σ' H' => (zu p).R H5 H' ∧ ∃ o4 o5 o6 o7 o8 o9 o10 o11 o12 o13 o14 o15, σ' = [some (.ref a), some (.int (k : Int)), some (.ref p), some (.ref pq), o4, o5, o6, o7, o8, o9, o10, o11, o12, o13, o14, o15])
          (fun H7 r7 => ⟨r7, _, _, _, _, _, _, _, _, _, _, _, _, rfl⟩) (fun j σ' H7 hj hP => ?_) (fun σ' H7 hP => ?_)
        · obtain ⟨r7, o4, o5, o6, o7, o8, o9, o10, o11, o12, o13, o14, o15, rfl⟩ := hP
          have ppl : ∀ {H' : Hp}, (zu p).R H7 H' → ∀ H'', (zu p).W H' H'' → Lst (zu p) (fun ws _ => ws = ps.map V.str) (.ref pq) H'' := fun r H'' w => ⟨pq, _, rfl, nuq, w pq _ nuq ((r7.tr r).w pq _ nuq hpq), rfl⟩
          refine q_parNew (z := zu p) (φ := fun v H' => ∃ fo, FoDr fo ∧ DU (zu p).U H' v (grpD fo)) r7.dr ?_ fun v5 pl H8 r8 f8 hpl => ?_
          · refine ev_call (ea_is (ev_is rfl) (ea_is (ev_is rfl) ea_nil)) fun us H9 r9 e Q0 q0 => ?_
            subst e
            exact ⟨zu p, p, .ref pq, ps, rfl, hps, r9.dr, zu_i, fun H' w => ppl r9 H' w, fun v' fo H' hfo r' f => q0 v' H' r' fun H3 w => ⟨fo, hfo, f H3 w⟩⟩
          obtain ⟨fo, hfo, hv5⟩ := f8 H8 .refl
          have hz8 := r8.dr
          have b0 : Bl (zu p) pl H8 (upd H8 pl (.lst [])) [] := ⟨hz8.new hpl, .refl, [], upd_same, .nil⟩
          have hpq8 : H8 pq = some (.lst (ps.map V.str)) := (r7.tr r8).w pq _ nuq hpq
          refine q_forR (z := (zu p).add pl) (n := 2) b0.rz (ea_is ev_k ea_nil) (by decide) (fun i σ' H' => ∃ ths : List Th, ths.length = i ∧ (∀ th ∈ ths, ThOk th) ∧ Bl (zu p) pl H8 H' (ths.map thD) ∧ ∃ o7 o8 o9, σ' = [some (.ref a), some (.int (k : Int)), some (.ref p), some (.ref pq), some (.int (j : Int)), some v5, some (.ref pl), o7, o8, o9, o10, o11, o12, o13, o14, o15])
            (fun H9 r9 => ⟨[], rfl, fun _ h => (by cases h), b0.go hpl hz8 r9, _, _, _, rfl⟩) (fun i σ' H9 hi hP => ?_) (fun σ' H9 hP => ?_)
          · obtain ⟨ths, hlen, hths, b, o7, o8, o9, rfl⟩ := hP
            have hu' : ((zu p).add pl).I p = some IsPur := zu_i
            obtain ⟨nuq', hpq9⟩ := b.at hpl nuq hpq8
            refine q_set (z := (zu p).add pl) (φ := fun v _ => ∃ x, isW x = true ∧ v = .str x) b.rz ?_ fun v8 H10 r10 f10 => ?_
            · exact ev_menuV (ws := ps.map V.str ++ [.str "one"]) (n := 5) (ev_catV (ev_lstv rfl nuq' hpq9 .refl) (fun H1 r1 => ev_lst (ea_is ev_k ea_nil) fun vs H' e => by rw [e]; exact (show 1 ≤ 100000 by decide)) (by rw [List.length_map, hp4']; decide)) (fun x H1 r1 => ev_take hu' (ev_is rfl) ev_k (by decide) (by decide))
                (by rw [List.length_append, List.length_map, hp4']; rfl) fun H1 w _ hw => by
                  rcases List.mem_append.mp hw with hw | hw
                  · obtain ⟨x, hx, rfl⟩ := List.mem_map.mp hw
                    exact ⟨x, hps.2.2 x hx, rfl⟩
                  · rw [List.mem_singleton.mp hw]
                    exact ⟨"one", one_w, rfl⟩
            obtain ⟨lord, hlord, rfl⟩ := f10 H10 .refl
            have b2 := b.go hpl hz8 r10
            refine q_set (z := (zu p).add pl) (φ := fun v _ => ∃ x, isW x = true ∧ v = .str x) b2.rz ?_ fun v9 H11 r11 f11 => ?_
            · exact ev_menuV (ws := [.str "one", .str "two", .str "root", .str "none"]) (n := 4) (ev_lst (ea_is ev_k (ea_is ev_k (ea_is ev_k (ea_is ev_k ea_nil)))) fun vs H' e => by rw [e]; exact (show 4 ≤ 100000 by decide)) (fun x H2 r2 => ev_take hu' (ev_is rfl) ev_k (by decide) (by decide)) rfl fun H2 w _ hw => by
                simp only [List.mem_cons, List.not_mem_nil, or_false] at hw
                rcases hw with rfl | rfl | rfl | rfl
                · exact ⟨"one", one_w, rfl⟩
                · exact ⟨"two", two_w, rfl⟩
                · exact ⟨"root", root_w, rfl⟩
                · exact ⟨"none", by decide +kernel, rfl⟩
            obtain ⟨clan, hclan, rfl⟩ := f11 H11 .refl
            have b3 := b2.go hpl hz8 r11
            refine bl_appP (D := { nx := _, ct := _, bk := _, rt := _ }) (Pd := fun d => ∃ th, d = thD th ∧ ThOk th) b3 hpl hz8 (ev_is rfl) (fun H12 r12 => ?_) (by rw [List.length_map]; omega) fun d H12 hd w12 b4 => ?_
            · refine (ev_tup (ea_cons (φ := Is (.str lord)) (ev_is rfl) fun _ H13 r13 _ => ea_cons (φ := Is (.str clan)) (ev_is rfl) fun _ H14 r14 _ => ea_cons (φ := Ds ((zu p).add pl) GrD) (ev_dat hu' (ev_is rfl)) fun _ _ _ _ => ea_nil) ?_).imp ?_
              · rintro vs H' ⟨y1, s1, rfl, _, y2, s2, rfl, _, y3, s3, rfl, _, rfl⟩
                exact (show 3 ≤ 100000 by decide)
              · rintro v' H' _ ⟨p', ws', rfl, nu', hp', y1, s1, rfl, e1, y2, s2, rfl, e2, y3, s3, rfl, ⟨dg, ⟨ga, gb, gd, rfl, ha, hb, hd⟩, hgv⟩, rfl⟩
                have e1' : y1 = .str lord := e1
                have e2' : y2 = .str clan := e2
                subst e1'
                subst e2'
                exact ⟨_, ⟨⟨lord, clan, ga, gb, gd⟩, rfl, hlord, hclan, rw_of ha, rw_of hb, rw_of hd⟩, .tup nu' hp' (.cons (.str _) (.cons (.str _) (.one hgv)))⟩
            · obtain ⟨th, rfl, hth⟩ := hd
              refine ⟨ths ++ [th], by rw [List.length_append, hlen]; rfl, fun x hx => ?_, by rw [List.map_append]; exact b4, _, _, _, rfl⟩
              rcases List.mem_append.mp hx with hx | hx
              · exact hths x hx
              · rw [List.mem_singleton.mp hx]; exact hth
          · obtain ⟨ths, hlen, hths, b, o7, o8, o9, rfl⟩ := hP
            obtain ⟨t0, t1, rfl⟩ : ∃ t0 t1, ths = [t0, t1] := by
              match ths, hlen with
              | [x, y], _ => exact ⟨x, y, rfl⟩
            have ht0 := hths t0 (by simp)
            have ht1 := hths t1 (by simp)
            have hz9 := b.r.dr
            have hv9 := hv5.w b.r.w
            have htv : DU (zu p).U H9 (.ref pl) (.list [thD t0, thD t1]) := b.list hpl hz8
            have hpq9 := b.r.w pq _ nuq hpq8
            refine q_unL2 ⟨v5, rfl, .ref pl, rfl, zu p, v5, .ref pl, fo, t0, t1, rfl, hz9, hv9, hfo.up.ok, fo_groups hfo.up, htv, ht0, ht1, fun v' z1 H10 t dt c pc co ws N s1 hT1 hc1 hclk1 hW1 hl1 => ?_⟩
            obtain ⟨p1, _, rfl, np1, hp1, rfl⟩ := hl1
            refine ⟨p1, _, rfl, .inl (.inl hp1), rfl, _, _, rfl, _, _, rfl, rfl, ?_⟩
            have hv10 := s1.du hv9
            have htv10 := s1.du htv
            have npq1 : ¬ z1.U pq := fun u => (s1.U pq u).elim nuq fun e => by rw [e] at hpq9; cases hpq9
            have hpq10 := s1.w pq _ nuq hpq9
            refine q_forL (z := z1) (Φ := fun ws _ => ws = ps.map V.str ++ [.str "root", .str "zz"]) s1.r (ev_catV (ev_lstv rfl npq1 hpq10 .refl) (fun H1 r1 => ev_lst (ea_is ev_k (ea_is ev_k ea_nil)) fun vs H' e => by rw [e]; exact (show 2 ≤ 100000 by decide)) (by rw [List.length_map, hp4']; decide)) fun lws H11 r11 hws => ?_
            have elws := hws H11 .refl
            subst elws
            refine ⟨fun i σ' H' => ∃ zk co' N', Step (chg z1) z1 H11 zk H' ∧ CoFull K cs.Folder cs.File cs.Core zk H' c co' fo ws N' ∧ co'.clock ≤ 1 ∧ co'.top = co.top ∧ W0 t0 t1 N' co.top ∧ ∃ o12, σ' = [some (.ref a), some (.int (k : Int)), some (.ref p), some (.ref pq), some (.int (j : Int)), some v5, some (.ref pl), o7, o8, o9, some (.ref t), some (.bl true), o12, o13, o14, o15],
              ⟨z1, co, N, Step.of_R chg_su r11.dr, hc1.go r11, by rw [hclk1]; decide, rfl, hW1, _, rfl⟩, fun i σ' H' ⟨zk, co', N', s, _⟩ => s.w, fun i x σ' H' hx hP => ?_, fun σ' H' hP => ?_⟩
            · obtain ⟨zk, co', N', s, hck, hclk, htop, hWk, o12', rfl⟩ := hP
              obtain ⟨person, hperson, rfl⟩ : ∃ person, isW person = true ∧ x = .str person := by
                rcases List.mem_append.mp (List.mem_of_getElem? hx) with hw | hw
                · obtain ⟨y, hy, rfl⟩ := List.mem_map.mp hw
                  exact ⟨y, hps.2.2 y hy, rfl⟩
                · simp only [List.mem_cons, List.not_mem_nil, or_false] at hw
                  rcases hw with rfl | rfl
                  · exact ⟨"root", root_w, rfl⟩
                  · exact ⟨"zz", zz_w, rfl⟩
              refine s_ifGood (i := 11) rfl (one_run (z := zk) (c := c) (co := co') (N := N') (fo := fo) (ws := ws) (t0 := t0) (t1 := t1) s.r ((hT1.go r11.w).step s) hck hclk (by rw [htop]; exact hWk) (s.du (hv10.w r11.w)) hfo.up (s.du (htv10.w r11.w)) ht0 ht1 hperson (fun Q q => ⟨_, rfl, _, rfl, _, rfl, _, rfl, q⟩) fun z2 H2 co2 N2 s2 hc2 hclk2 htop2 hW2 => ⟨true, rfl, ?_⟩)
              rw [if_neg (by decide)]
              rw [htop] at hW2
              exact ⟨z2, co2, N2, Step.trc r11.dr s s2, hc2, hclk2, by rw [htop2, htop], hW2, _, rfl⟩
            · obtain ⟨zk, co', N', s, hck, hclk, htop, hWk, o12', rfl⟩ := hP
              have hvk := s.du (hv10.w r11.w)
              have htvk := s.du (htv10.w r11.w)
              have sk : Step (chg (zu p)) (zu p) H9 zk H' := Step.trc hz9 s1 (Step.trc s1.r (Step.of_R chg_su r11) s)
              obtain ⟨fa, fvs, rfl, nfa, hfa, hfd⟩ := DU.tupAt hvk
              have hfl : fvs.length = fo.length := by
                have := hfd.len
                rw [List.length_map] at this
                exact this
              refine q_set (z := zk) (i := 13) (φ := fun v H' => ∃ fo2, FoD5 fo2 ∧ DU zk.U H' v (grpD fo2)) s.r ?_ fun v13 H12 r12 f12 => ?_
              · refine (ev_tupleL (ev_lcG (P := (· = fvs.length)) (φ := fun i w H' => ∃ p p', fo[i]? = some p ∧ DU zk.U H' w (rowG p') ∧ p'.1 = p.1 ∧ RowOk5 p') (ei_tup (K := K) (ev_tupv rfl nfa hfa)) (fun n h => by have := hfo.1; omega) fun n i x D H2 _ hi hx hD r2 rD => ?_)).imp ?_
                · obtain ⟨d', hd, dv⟩ := (hfd.w r2.w).at hx
                  rw [List.getElem?_map] at hd
                  obtain ⟨rp, hrp, rfl⟩ := Option.map_eq_some_iff.mp hd
                  have dv2 : DU (zk.add D).U H2 x (rowG rp) := by
                    obtain ⟨d2, hd2, dv2⟩ := hfd.at hx
                    rw [List.getElem?_map, hrp] at hd2
                    cases hd2
                    exact dv2.add hD r2.w
                  obtain ⟨qa, qb, rfl, na, hqa, nb, hqb⟩ := row_at dv2
                  obtain ⟨w1, w2, w3, w4⟩ := hfo.2.2 rp (List.mem_of_getElem? hrp)
                  refine ⟨_, fun k hk => ⟨qa, [.str rp.1, .ref qb], rfl, .inl (.inl hqa), rfl, .str rp.1, [.ref qb], rfl, .ref qb, [], rfl, rfl, hk⟩, rfl, ?_⟩
                  refine (ev_tup (ea_cons (φ := Is (.str rp.1)) (ev_is rfl) fun _ H3 r3 _ => ea_cons (φ := Tup (zk.add D) fun ws _ => ∃ ks, ws = ks.map V.str ∧ sortedS ks = true ∧ ks.Nodup ∧ (∀ k, k ∈ ks ↔ k ∈ rp.2 ++ [("zz" : Str)]) ∧ ks.length ≤ (rp.2 ++ [("zz" : Str)]).length) (ev_tupleL (ev_sortSet (xs := rp.2 ++ [("zz" : Str)]) ((ev_catDT (ds := rp.2.map PyData.str) (es := [.str "zz"]) (ev_var rfl fun H' w => .tup nb (w qb _ nb (r3.w qb _ nb hqb)) (.strs _)) (fun H4 r4 => ed_tup (ed_cons (ed_k fun _ => .str _) fun _ _ => ed_nil) (by decide)) (by rw [List.length_map]; show rp.2.length + 1 ≤ 100000; omega)).imp ?_) (by rw [List.length_append]; show rp.2.length + 1 < 64; omega))) fun _ _ _ _ => ea_nil) ?_).imp ?_
                  · intro v' H5 _ f
                    obtain ⟨p', us, rfl, nu', hp', du⟩ := DU.tupAt f
                    have eus := dua_strs (ns := rp.2 ++ [("zz" : Str)]) (by rw [List.map_append]; exact du)
                    exact ⟨p', rfl, .inr (.inl (.inl (by rw [hp', eus])))⟩
                  · rintro vs H5 ⟨y1, q1, rfl, _, y2, q2, rfl, _, rfl⟩
                    exact (show 2 ≤ 100000 by decide)
                  · rintro v' H5 _ ⟨p', ws', rfl, nu', hp', y1, q1, rfl, e1, y2, q2, rfl, ⟨pb, wb, rfl, nub, hpb, ks, rfl, k1, k2, k3, k4⟩, rfl⟩
                    have e1' : y1 = .str rp.1 := e1
                    subst e1'
                    rw [List.length_append] at k4
                    have k4' : ks.length ≤ rp.2.length + 1 := k4
                    refine ⟨rp, (rp.1, ks), hrp, .tup (fun u => nu' (Or.inl u)) hp' (.cons (.str _) (.one (.tup (fun u => nub (Or.inl u)) hpb (.strs ks)))), rfl, w1, (show ks.length ≤ 5 by omega), sorted_gr k1 k2, fun u hu => ?_⟩
                    rcases List.mem_append.mp ((k3 u).mp hu) with h | h
                    · exact w4 u h
                    · rw [List.mem_singleton.mp h]; exact zz_w
                · rintro v' H5 _ ⟨p', ws', rfl, nu', hp', h1, h2⟩
                  obtain ⟨fo2, g1, g2, g3⟩ := rows_of (h1.trans hfl) h2
                  refine ⟨fo2, ⟨?_, by rw [g2]; exact hfo.2.1, g3⟩, .tup nu' hp' g1⟩
                  have := congrArg List.length g2
                  rw [List.length_map, List.length_map] at this
                  have := hfo.1
                  omega
              obtain ⟨fo2, hfo2, hv13⟩ := f12 H12 .refl
              refine q_unL2 ⟨v13, rfl, .ref pl, rfl, zk, v13, .ref pl, fo2, t0, t1, rfl, r12.dr, hv13, hfo2.ok, fo_groups hfo2, htvk.w r12.w, ht0, ht1, fun v' z2 H13 t' dt' c' pc' co2 ws2 N2 s2 hT2 hc2 hclk2 hW2 hl2 => ?_⟩
              obtain ⟨p2, _, rfl, np2, hp2, rfl⟩ := hl2
              refine ⟨p2, _, rfl, .inl (.inl hp2), rfl, _, _, rfl, _, _, rfl, rfl, ?_⟩
              refine s_ifGood (i := 11) rfl (one_run (z := z2) (c := c') (co := co2) (N := N2) (fo := fo2) (ws := ws2) (t0 := t0) (t1 := t1) s2.r hT2 hc2 (by rw [hclk2]; decide) hW2 (s2.du hv13) hfo2 (s2.du (htvk.w r12.w)) ht0 ht1 zz_w (fun Q q => ⟨_, rfl, _, rfl, _, rfl, q⟩) fun z3 H3 co3 N3 s3 hc3 hclk3 htop3 hW3 => ⟨true, rfl, ?_⟩)
              rw [if_neg (by decide)]
              have sAll : Step (chg (zu p)) (zu p) H9 z3 H3 := Step.trc hz9 sk (Step.trc s.r (Step.of_R chg_su r12) (Step.trc r12.dr s2 s3))
              have rAll := (sAll.weak (fun a h => chg_zu h) fun _ h => h.elim).toR hz9
              exact ⟨((r7.tr r8).tr b.r).tr rAll, _, _, _, _, _, _, _, _, _, _, _, _, rfl⟩
        · obtain ⟨r7, o4, o5, o6, o7, o8, o9, o10, o11, o12, o13, o14, o15, rfl⟩ := hP
          exact ⟨(r3.tr rx).tr (zu_z0 r4 hp4 (r5.tr r7)), _, _, _, _, _, _, _, _, _, _, _, _, _, _, _, rfl⟩
      · obtain ⟨r3, o1, o2, o3, o4, o5, o6, o7, o8, o9, o10, o11, o12, o13, o14, o15, rfl⟩ := hP
        refine s_ret (z := z0) z0r ev_k fun v H5 r5 f => ?_
        have e := f H5 .refl
        subst e
        exact q H5)]
  intro b q h; simpa using FB.pinF b h
  eq_refl
end
end K05
set_option Elab.async false
set_option linter.all false
set_option maxRecDepth 100000
set_option maxHeartbeats 8000000
namespace K05
open PySem PySem.Spec PyProof.Rows L2 FB RZ
theorem ne_of {a b : Addr} (h : (a == b) = false) : a ≠ b := fun e => by
  rw [e] at h
  simp at h
theorem ne_of2 {a b : Addr} (h : (a == b) = false) : (Value.ref a == Value.ref b) = false := by
  refine' @FB.also _ _ ?_ ?_ ?_; rotate_left
  · intro wit__; simp only [↓FB.viaW wit__ (by
      clear wit__
      rw [beq_eq_false_iff_ne]
      intro e
      injection e with e
      exact ne_of h e)]
  intro b q h; simpa using FB.pinF b h
  eq_refl
theorem tup_c1 {K : PySem.W.Frag} {A : Addr} {od : Option Addr} {n : Nat} {sl : Array (Option Value)} {x0 : Str} {t0 : Tok} (h : K.lookup A = some ⟨.type "tuple", od, .seq #[.str x0 t0] n, sl⟩) : ∀ H, SqT K H A [.str x0] := fun H =>
  .inr ⟨_, _, _, h, rfl, rfl, (by show 1 ≤ sizeLine; decide), .cons ⟨_, rfl⟩ .nil⟩
theorem tup_c2 {K : PySem.W.Frag} {A : Addr} {od : Option Addr} {n : Nat} {sl : Array (Option Value)} {x0 x1 : Str} {t0 t1 : Tok} (h : K.lookup A = some ⟨.type "tuple", od, .seq #[.str x0 t0, .str x1 t1] n, sl⟩) : ∀ H, SqT K H A [.str x0, .str x1] := fun H =>
  .inr ⟨_, _, _, h, rfl, rfl, (by show 2 ≤ sizeLine; decide), .cons ⟨_, rfl⟩ (.cons ⟨_, rfl⟩ .nil)⟩
theorem tup_c3 {K : PySem.W.Frag} {A : Addr} {od : Option Addr} {n : Nat} {sl : Array (Option Value)} {x0 x1 x2 : Str} {t0 t1 t2 : Tok} (h : K.lookup A = some ⟨.type "tuple", od, .seq #[.str x0 t0, .str x1 t1, .str x2 t2] n, sl⟩) : ∀ H, SqT K H A [.str x0, .str x1, .str x2] := fun H =>
  .inr ⟨_, _, _, h, rfl, rfl, (by show 3 ≤ sizeLine; decide), .cons ⟨_, rfl⟩ (.cons ⟨_, rfl⟩ (.cons ⟨_, rfl⟩ .nil))⟩
theorem tup_c4 {K : PySem.W.Frag} {A : Addr} {od : Option Addr} {n : Nat} {sl : Array (Option Value)} {x0 x1 x2 x3 : Str} {t0 t1 t2 t3 : Tok} (h : K.lookup A = some ⟨.type "tuple", od, .seq #[.str x0 t0, .str x1 t1, .str x2 t2, .str x3 t3] n, sl⟩) : ∀ H, SqT K H A [.str x0, .str x1, .str x2, .str x3] := by
  refine' @FB.also _ _ ?_ ?_ ?_; rotate_left
  · intro wit__; simp only [↓FB.viaW wit__ (by
      clear wit__
      exact fun H =>
        .inr ⟨_, _, _, h, rfl, rfl, (by show 4 ≤ sizeLine; decide), .cons ⟨_, rfl⟩ (.cons ⟨_, rfl⟩ (.cons ⟨_, rfl⟩ (.cons ⟨_, rfl⟩ .nil)))⟩)]
  intro b q h; simpa using FB.pinF b h
  eq_refl
theorem all_mk {l : PySem.W.OpenLaw} {w : World} {K : PySem.W.Frag} {h : Heap} {mg : Str → Option Value} {fa : Addr} (X : K.In h) (G : h.Ns mainGlobals mg) (hfa : mg "law" = some (.ref fa))
    {f_is_word : Addr} {od_is_word an_is_word : Option Addr} {sl_is_word : Array (Option Value)} {oc_is_word kV_is_word dc_is_word pm_is_word cd_is_word ct_is_word : Value}
    {f_is_path : Addr} {od_is_path an_is_path : Option Addr} {sl_is_path : Array (Option Value)} {oc_is_path kV_is_path dc_is_path pm_is_path cd_is_path ct_is_path : Value}
    {f_is_rights : Addr} {od_is_rights an_is_rights : Option Addr} {sl_is_rights : Array (Option Value)} {oc_is_rights kV_is_rights dc_is_rights pm_is_rights cd_is_rights ct_is_rights : Value}
    {f_is_groups : Addr} {od_is_groups an_is_groups : Option Addr} {sl_is_groups : Array (Option Value)} {oc_is_groups kV_is_groups dc_is_groups pm_is_groups cd_is_groups ct_is_groups : Value}
    {f__is_rights_text : Addr} {od__is_rights_text an__is_rights_text : Option Addr} {sl__is_rights_text : Array (Option Value)} {oc__is_rights_text kV__is_rights_text dc__is_rights_text pm__is_rights_text cd__is_rights_text ct__is_rights_text : Value}
    {f__is_members : Addr} {od__is_members an__is_members : Option Addr} {sl__is_members : Array (Option Value)} {oc__is_members kV__is_members dc__is_members pm__is_members cd__is_members ct__is_members : Value}
    {f_may : Addr} {od_may an_may : Option Addr} {sl_may : Array (Option Value)} {oc_may kV_may dc_may pm_may cd_may ct_may : Value}
    {f__users_of : Addr} {od__users_of an__users_of : Option Addr} {sl__users_of : Array (Option Value)} {oc__users_of kV__users_of dc__users_of pm__users_of cd__users_of ct__users_of : Value}
    {f_is_count : Addr} {od_is_count an_is_count : Option Addr} {sl_is_count : Array (Option Value)} {oc_is_count kV_is_count dc_is_count pm_is_count cd_is_count ct_is_count : Value}
    {f_is_tree_deed : Addr} {od_is_tree_deed an_is_tree_deed : Option Addr} {sl_is_tree_deed : Array (Option Value)} {oc_is_tree_deed kV_is_tree_deed dc_is_tree_deed pm_is_tree_deed cd_is_tree_deed ct_is_tree_deed : Value}
    {f__is_of_path : Addr} {od__is_of_path an__is_of_path : Option Addr} {sl__is_of_path : Array (Option Value)} {oc__is_of_path kV__is_of_path dc__is_of_path pm__is_of_path cd__is_of_path ct__is_of_path : Value}
    {f__is_cut : Addr} {od__is_cut an__is_cut : Option Addr} {sl__is_cut : Array (Option Value)} {oc__is_cut kV__is_cut dc__is_cut pm__is_cut cd__is_cut ct__is_cut : Value}
    {f__is_rights : Addr} {od__is_rights an__is_rights : Option Addr} {sl__is_rights : Array (Option Value)} {oc__is_rights kV__is_rights dc__is_rights pm__is_rights cd__is_rights ct__is_rights : Value}
    {f_give_rights : Addr} {od_give_rights an_give_rights : Option Addr} {sl_give_rights : Array (Option Value)} {oc_give_rights kV_give_rights dc_give_rights pm_give_rights cd_give_rights ct_give_rights : Value}
    {f_lets : Addr} {od_lets an_lets : Option Addr} {sl_lets : Array (Option Value)} {oc_lets kV_lets dc_lets pm_lets cd_lets ct_lets : Value}
    {f_gone_along : Addr} {od_gone_along an_gone_along : Option Addr} {sl_gone_along : Array (Option Value)} {oc_gone_along kV_gone_along dc_gone_along pm_gone_along cd_gone_along ct_gone_along : Value}
    {f_come_to : Addr} {od_come_to an_come_to : Option Addr} {sl_come_to : Array (Option Value)} {oc_come_to kV_come_to dc_come_to pm_come_to cd_come_to ct_come_to : Value}
    {f_file_at : Addr} {od_file_at an_file_at : Option Addr} {sl_file_at : Array (Option Value)} {oc_file_at kV_file_at dc_file_at pm_file_at cd_file_at ct_file_at : Value}
    {f_owns : Addr} {od_owns an_owns : Option Addr} {sl_owns : Array (Option Value)} {oc_owns kV_owns dc_owns pm_owns cd_owns ct_owns : Value}
    {f_has_room : Addr} {od_has_room an_has_room : Option Addr} {sl_has_room : Array (Option Value)} {oc_has_room kV_has_room dc_has_room pm_has_room cd_has_room ct_has_room : Value}
    {f_used : Addr} {od_used an_used : Option Addr} {sl_used : Array (Option Value)} {oc_used kV_used dc_used pm_used cd_used ct_used : Value}
    {f_held : Addr} {od_held an_held : Option Addr} {sl_held : Array (Option Value)} {oc_held kV_held dc_held pm_held cd_held ct_held : Value}
    {f__strained_folders : Addr} {od__strained_folders an__strained_folders : Option Addr} {sl__strained_folders : Array (Option Value)} {oc__strained_folders kV__strained_folders dc__strained_folders pm__strained_folders cd__strained_folders ct__strained_folders : Value}
    {f__strained_users : Addr} {od__strained_users an__strained_users : Option Addr} {sl__strained_users : Array (Option Value)} {oc__strained_users kV__strained_users dc__strained_users pm__strained_users cd__strained_users ct__strained_users : Value}
    {f_shortened : Addr} {od_shortened an_shortened : Option Addr} {sl_shortened : Array (Option Value)} {oc_shortened kV_shortened dc_shortened pm_shortened cd_shortened ct_shortened : Value}
    {f__first_cells : Addr} {od__first_cells an__first_cells : Option Addr} {sl__first_cells : Array (Option Value)} {oc__first_cells kV__first_cells dc__first_cells pm__first_cells cd__first_cells ct__first_cells : Value}
    {f__joined : Addr} {od__joined an__joined : Option Addr} {sl__joined : Array (Option Value)} {oc__joined kV__joined dc__joined pm__joined cd__joined ct__joined : Value}
    {f__goes_on : Addr} {od__goes_on an__goes_on : Option Addr} {sl__goes_on : Array (Option Value)} {oc__goes_on kV__goes_on dc__goes_on pm__goes_on cd__goes_on ct__goes_on : Value}
    {f_gathered : Addr} {od_gathered an_gathered : Option Addr} {sl_gathered : Array (Option Value)} {oc_gathered kV_gathered dc_gathered pm_gathered cd_gathered ct_gathered : Value}
    {f_filled : Addr} {od_filled an_filled : Option Addr} {sl_filled : Array (Option Value)} {oc_filled kV_filled dc_filled pm_filled cd_filled ct_filled : Value}
    {f_lapse : Addr} {od_lapse an_lapse : Option Addr} {sl_lapse : Array (Option Value)} {oc_lapse kV_lapse dc_lapse pm_lapse cd_lapse ct_lapse : Value}
    {f_room_deed : Addr} {od_room_deed an_room_deed : Option Addr} {sl_room_deed : Array (Option Value)} {oc_room_deed kV_room_deed dc_room_deed pm_room_deed cd_room_deed ct_room_deed : Value}
    {f_telling_deed : Addr} {od_telling_deed an_telling_deed : Option Addr} {sl_telling_deed : Array (Option Value)} {oc_telling_deed kV_telling_deed dc_telling_deed pm_telling_deed cd_telling_deed ct_telling_deed : Value}
    {f_shape_deed : Addr} {od_shape_deed an_shape_deed : Option Addr} {sl_shape_deed : Array (Option Value)} {oc_shape_deed kV_shape_deed dc_shape_deed pm_shape_deed cd_shape_deed ct_shape_deed : Value}
    {f__folder_of : Addr} {od__folder_of an__folder_of : Option Addr} {sl__folder_of : Array (Option Value)} {oc__folder_of kV__folder_of dc__folder_of pm__folder_of cd__folder_of ct__folder_of : Value}
    {f__new_place : Addr} {od__new_place an__new_place : Option Addr} {sl__new_place : Array (Option Value)} {oc__new_place kV__new_place dc__new_place pm__new_place cd__new_place ct__new_place : Value}
    {f__old_place : Addr} {od__old_place an__old_place : Option Addr} {sl__old_place : Array (Option Value)} {oc__old_place kV__old_place dc__old_place pm__old_place cd__old_place ct__old_place : Value}
    {f__make : Addr} {od__make an__make : Option Addr} {sl__make : Array (Option Value)} {oc__make kV__make dc__make pm__make cd__make ct__make : Value}
    {f__strike : Addr} {od__strike an__strike : Option Addr} {sl__strike : Array (Option Value)} {oc__strike kV__strike dc__strike pm__strike cd__strike ct__strike : Value}
    {f__cut : Addr} {od__cut an__cut : Option Addr} {sl__cut : Array (Option Value)} {oc__cut kV__cut dc__cut pm__cut cd__cut ct__cut : Value}
    {f__rights : Addr} {od__rights an__rights : Option Addr} {sl__rights : Array (Option Value)} {oc__rights kV__rights dc__rights pm__rights cd__rights ct__rights : Value}
    {f_told_of_path : Addr} {od_told_of_path an_told_of_path : Option Addr} {sl_told_of_path : Array (Option Value)} {oc_told_of_path kV_told_of_path dc_told_of_path pm_told_of_path cd_told_of_path ct_told_of_path : Value}
    {f__looked : Addr} {od__looked an__looked : Option Addr} {sl__looked : Array (Option Value)} {oc__looked kV__looked dc__looked pm__looked cd__looked ct__looked : Value}
    {f__told_of : Addr} {od__told_of an__told_of : Option Addr} {sl__told_of : Array (Option Value)} {oc__told_of kV__told_of dc__told_of pm__told_of cd__told_of ct__told_of : Value}
    {f_wanted_parts : Addr} {od_wanted_parts an_wanted_parts : Option Addr} {sl_wanted_parts : Array (Option Value)} {oc_wanted_parts kV_wanted_parts dc_wanted_parts pm_wanted_parts cd_wanted_parts ct_wanted_parts : Value}
    {f__law_purse : Addr} {od__law_purse an__law_purse : Option Addr} {sl__law_purse : Array (Option Value)} {oc__law_purse kV__law_purse dc__law_purse pm__law_purse cd__law_purse ct__law_purse : Value}
    {f__law_take : Addr} {od__law_take an__law_take : Option Addr} {sl__law_take : Array (Option Value)} {oc__law_take kV__law_take dc__law_take pm__law_take cd__law_take ct__law_take : Value}
    {f__law_people : Addr} {od__law_people an__law_people : Option Addr} {sl__law_people : Array (Option Value)} {oc__law_people kV__law_people dc__law_people pm__law_people cd__law_people ct__law_people : Value}
    {f__law_clubs : Addr} {od__law_clubs an__law_clubs : Option Addr} {sl__law_clubs : Array (Option Value)} {oc__law_clubs kV__law_clubs dc__law_clubs pm__law_clubs cd__law_clubs ct__law_clubs : Value}
    {f__law_grants : Addr} {od__law_grants an__law_grants : Option Addr} {sl__law_grants : Array (Option Value)} {oc__law_grants kV__law_grants dc__law_grants pm__law_grants cd__law_grants ct__law_grants : Value}
    {f__law_let : Addr} {od__law_let an__law_let : Option Addr} {sl__law_let : Array (Option Value)} {oc__law_let kV__law_let dc__law_let pm__law_let cd__law_let ct__law_let : Value}
    {f__law_made : Addr} {od__law_made an__law_made : Option Addr} {sl__law_made : Array (Option Value)} {oc__law_made kV__law_made dc__law_made pm__law_made cd__law_made ct__law_made : Value}
    {f__law_due : Addr} {od__law_due an__law_due : Option Addr} {sl__law_due : Array (Option Value)} {oc__law_due kV__law_due dc__law_due pm__law_due cd__law_due ct__law_due : Value}
    {f__law_one_right : Addr} {od__law_one_right an__law_one_right : Option Addr} {sl__law_one_right : Array (Option Value)} {oc__law_one_right kV__law_one_right dc__law_one_right pm__law_one_right cd__law_one_right ct__law_one_right : Value}
    {f_law : Addr} {od_law an_law : Option Addr} {sl_law : Array (Option Value)} {oc_law kV_law dc_law pm_law cd_law ct_law : Value}
    {C_Folder : Addr} {och_Folder : Value} {odh_Folder : Option Addr} {cdh_Folder : ClassData} {osh_Folder : Array (Option Value)}
    {C_File : Addr} {och_File : Value} {odh_File : Option Addr} {cdh_File : ClassData} {osh_File : Array (Option Value)}
    {C_Core : Addr}
    {C_Grove : Addr}
    {C_Tree : Addr}
    {C_Promise : Addr}
    {f_Folder_init : Addr} {od_Folder_init an_Folder_init : Option Addr} {sl_Folder_init : Array (Option Value)} {oc_Folder_init kV_Folder_init dc_Folder_init pm_Folder_init cd_Folder_init ct_Folder_init : Value}
    {f_File_init : Addr} {od_File_init an_File_init : Option Addr} {sl_File_init : Array (Option Value)} {oc_File_init kV_File_init dc_File_init pm_File_init cd_File_init ct_File_init : Value}
    {f_Core_init : Addr} {od_Core_init an_Core_init : Option Addr} {sl_Core_init : Array (Option Value)} {oc_Core_init kV_Core_init dc_Core_init pm_Core_init cd_Core_init ct_Core_init : Value}
    {T_dfl E_dfl : Addr} {oc_dfl : Value} {od_dfl : Option Addr} {n_dfl : Nat} {sl_dfl : Array (Option Value)}
    {f_Tree_init : Addr} {od_Tree_init an_Tree_init : Option Addr} {sl_Tree_init : Array (Option Value)} {oc_Tree_init kV_Tree_init dc_Tree_init pm_Tree_init cd_Tree_init ct_Tree_init : Value}
    {f_Grove_init : Addr} {od_Grove_init an_Grove_init : Option Addr} {sl_Grove_init : Array (Option Value)} {oc_Grove_init kV_Grove_init dc_Grove_init pm_Grove_init cd_Grove_init ct_Grove_init : Value}
    {f_Core_act : Addr} {od_Core_act an_Core_act : Option Addr} {sl_Core_act : Array (Option Value)} {oc_Core_act kV_Core_act dc_Core_act pm_Core_act cd_Core_act ct_Core_act : Value}
    {f_Grove_reply : Addr} {od_Grove_reply an_Grove_reply : Option Addr} {sl_Grove_reply : Array (Option Value)} {oc_Grove_reply kV_Grove_reply dc_Grove_reply pm_Grove_reply cd_Grove_reply ct_Grove_reply : Value}
    {f_Grove_with_cells : Addr} {od_Grove_with_cells an_Grove_with_cells : Option Addr} {sl_Grove_with_cells : Array (Option Value)} {oc_Grove_with_cells kV_Grove_with_cells dc_Grove_with_cells pm_Grove_with_cells cd_Grove_with_cells ct_Grove_with_cells : Value}
    {f_Grove_put : Addr} {od_Grove_put an_Grove_put : Option Addr} {sl_Grove_put : Array (Option Value)} {oc_Grove_put kV_Grove_put dc_Grove_put pm_Grove_put cd_Grove_put ct_Grove_put : Value}
    {f_Tree_do : Addr} {od_Tree_do an_Tree_do : Option Addr} {sl_Tree_do : Array (Option Value)} {oc_Tree_do kV_Tree_do dc_Tree_do pm_Tree_do cd_Tree_do ct_Tree_do : Value}
    {t_ROOT : Tok}
    {t_LETTERS : Tok}
    {t_MOST_LETTERS : Tok}
    {t_MOST_NAMES : Tok}
    {t_MOST_GROUPS : Tok}
    {A_DONE : Addr} {odt_DONE : Option Addr} {nt_DONE : Nat} {slt_DONE : Array (Option Value)} {tt_DONE_0 : Tok}
    {A_NO_RIGHT : Addr} {odt_NO_RIGHT : Option Addr} {nt_NO_RIGHT : Nat} {slt_NO_RIGHT : Array (Option Value)} {tt_NO_RIGHT_0 tt_NO_RIGHT_1 : Tok}
    {A_NO_ROOM : Addr} {odt_NO_ROOM : Option Addr} {nt_NO_ROOM : Nat} {slt_NO_ROOM : Array (Option Value)} {tt_NO_ROOM_0 tt_NO_ROOM_1 : Tok}
    {A_NEW_RIGHTS : Addr} {odt_NEW_RIGHTS : Option Addr} {nt_NEW_RIGHTS : Nat} {slt_NEW_RIGHTS : Array (Option Value)} {tt_NEW_RIGHTS_0 tt_NEW_RIGHTS_1 tt_NEW_RIGHTS_2 : Tok}
    {A_PATH_WORDS : Addr} {odt_PATH_WORDS : Option Addr} {nt_PATH_WORDS : Nat} {slt_PATH_WORDS : Array (Option Value)} {tt_PATH_WORDS_0 tt_PATH_WORDS_1 tt_PATH_WORDS_2 : Tok}
    {A_GLANCED : Addr} {odt_GLANCED : Option Addr} {nt_GLANCED : Nat} {slt_GLANCED : Array (Option Value)} {tt_GLANCED_0 tt_GLANCED_1 tt_GLANCED_2 : Tok}
    {A_RIGHTS_TEXTS : Addr} {odt_RIGHTS_TEXTS : Option Addr} {nt_RIGHTS_TEXTS : Nat} {slt_RIGHTS_TEXTS : Array (Option Value)} {tt_RIGHTS_TEXTS_0 tt_RIGHTS_TEXTS_1 tt_RIGHTS_TEXTS_2 tt_RIGHTS_TEXTS_3 : Tok}
    {A_SIGNS : Addr} {odt_SIGNS : Option Addr} {nt_SIGNS : Nat} {slt_SIGNS : Array (Option Value)} {tt_SIGNS_0 tt_SIGNS_1 : Tok}
    {A_FORMS : Addr}
    {es_FORMS : Array DictEntry} {nd_FORMS : Nat}
    {A_TREE_FORMS : Addr}
    {A_ACTIONS_shapes : Addr}
    {es_ACTIONS_shapes : Array DictEntry} {nd_ACTIONS_shapes : Nat}
    {A_SHAPING : Addr}
    {es_SHAPING : Array DictEntry} {nd_SHAPING : Nat}
    {A_ROOMY : Addr}
    (a_is_word : PySem.W.nsIn K mainGlobals "is_word" = some (some (.ref f_is_word)))
    (l_is_word : K.lookup f_is_word = some ⟨oc_is_word, od_is_word, .func (PySem.W.fnOf "is_word" "is_word" (defArgs s_is_word) (defBody s_is_word) (defScope s_is_word) .none kV_is_word dc_is_word pm_is_word an_is_word cd_is_word ct_is_word), sl_is_word⟩)
    (c_is_word : PySem.W.codeIn K cd_is_word "is_word" = true)
    (k_is_word : PySem.W.keepIn K (.ref f_is_word) = true)
    (a_is_path : PySem.W.nsIn K mainGlobals "is_path" = some (some (.ref f_is_path)))
    (l_is_path : K.lookup f_is_path = some ⟨oc_is_path, od_is_path, .func (PySem.W.fnOf "is_path" "is_path" (defArgs s_is_path) (defBody s_is_path) (defScope s_is_path) .none kV_is_path dc_is_path pm_is_path an_is_path cd_is_path ct_is_path), sl_is_path⟩)
    (c_is_path : PySem.W.codeIn K cd_is_path "is_path" = true)
    (k_is_path : PySem.W.keepIn K (.ref f_is_path) = true)
    (a_is_rights : PySem.W.nsIn K mainGlobals "is_rights" = some (some (.ref f_is_rights)))
    (l_is_rights : K.lookup f_is_rights = some ⟨oc_is_rights, od_is_rights, .func (PySem.W.fnOf "is_rights" "is_rights" (defArgs s_is_rights) (defBody s_is_rights) (defScope s_is_rights) .none kV_is_rights dc_is_rights pm_is_rights an_is_rights cd_is_rights ct_is_rights), sl_is_rights⟩)
    (c_is_rights : PySem.W.codeIn K cd_is_rights "is_rights" = true)
    (k_is_rights : PySem.W.keepIn K (.ref f_is_rights) = true)
    (a_is_groups : PySem.W.nsIn K mainGlobals "is_groups" = some (some (.ref f_is_groups)))
    (l_is_groups : K.lookup f_is_groups = some ⟨oc_is_groups, od_is_groups, .func (PySem.W.fnOf "is_groups" "is_groups" (defArgs s_is_groups) (defBody s_is_groups) (defScope s_is_groups) .none kV_is_groups dc_is_groups pm_is_groups an_is_groups cd_is_groups ct_is_groups), sl_is_groups⟩)
    (c_is_groups : PySem.W.codeIn K cd_is_groups "is_groups" = true)
    (k_is_groups : PySem.W.keepIn K (.ref f_is_groups) = true)
    (a__is_rights_text : PySem.W.nsIn K mainGlobals "_is_rights_text" = some (some (.ref f__is_rights_text)))
    (l__is_rights_text : K.lookup f__is_rights_text = some ⟨oc__is_rights_text, od__is_rights_text, .func (PySem.W.fnOf "_is_rights_text" "_is_rights_text" (defArgs s__is_rights_text) (defBody s__is_rights_text) (defScope s__is_rights_text) .none kV__is_rights_text dc__is_rights_text pm__is_rights_text an__is_rights_text cd__is_rights_text ct__is_rights_text), sl__is_rights_text⟩)
    (c__is_rights_text : PySem.W.codeIn K cd__is_rights_text "_is_rights_text" = true)
    (k__is_rights_text : PySem.W.keepIn K (.ref f__is_rights_text) = true)
    (a__is_members : PySem.W.nsIn K mainGlobals "_is_members" = some (some (.ref f__is_members)))
    (l__is_members : K.lookup f__is_members = some ⟨oc__is_members, od__is_members, .func (PySem.W.fnOf "_is_members" "_is_members" (defArgs s__is_members) (defBody s__is_members) (defScope s__is_members) .none kV__is_members dc__is_members pm__is_members an__is_members cd__is_members ct__is_members), sl__is_members⟩)
    (c__is_members : PySem.W.codeIn K cd__is_members "_is_members" = true)
    (k__is_members : PySem.W.keepIn K (.ref f__is_members) = true)
    (a_may : PySem.W.nsIn K mainGlobals "may" = some (some (.ref f_may)))
    (l_may : K.lookup f_may = some ⟨oc_may, od_may, .func (PySem.W.fnOf "may" "may" (defArgs s_may) (defBody s_may) (defScope s_may) .none kV_may dc_may pm_may an_may cd_may ct_may), sl_may⟩)
    (c_may : PySem.W.codeIn K cd_may "may" = true)
    (k_may : PySem.W.keepIn K (.ref f_may) = true)
    (a__users_of : PySem.W.nsIn K mainGlobals "_users_of" = some (some (.ref f__users_of)))
    (l__users_of : K.lookup f__users_of = some ⟨oc__users_of, od__users_of, .func (PySem.W.fnOf "_users_of" "_users_of" (defArgs s__users_of) (defBody s__users_of) (defScope s__users_of) .none kV__users_of dc__users_of pm__users_of an__users_of cd__users_of ct__users_of), sl__users_of⟩)
    (c__users_of : PySem.W.codeIn K cd__users_of "_users_of" = true)
    (k__users_of : PySem.W.keepIn K (.ref f__users_of) = true)
    (a_is_count : PySem.W.nsIn K mainGlobals "is_count" = some (some (.ref f_is_count)))
    (l_is_count : K.lookup f_is_count = some ⟨oc_is_count, od_is_count, .func (PySem.W.fnOf "is_count" "is_count" (defArgs s_is_count) (defBody s_is_count) (defScope s_is_count) .none kV_is_count dc_is_count pm_is_count an_is_count cd_is_count ct_is_count), sl_is_count⟩)
    (c_is_count : PySem.W.codeIn K cd_is_count "is_count" = true)
    (k_is_count : PySem.W.keepIn K (.ref f_is_count) = true)
    (a_is_tree_deed : PySem.W.nsIn K mainGlobals "is_tree_deed" = some (some (.ref f_is_tree_deed)))
    (l_is_tree_deed : K.lookup f_is_tree_deed = some ⟨oc_is_tree_deed, od_is_tree_deed, .func (PySem.W.fnOf "is_tree_deed" "is_tree_deed" (defArgs s_is_tree_deed) (defBody s_is_tree_deed) (defScope s_is_tree_deed) .none kV_is_tree_deed dc_is_tree_deed pm_is_tree_deed an_is_tree_deed cd_is_tree_deed ct_is_tree_deed), sl_is_tree_deed⟩)
    (c_is_tree_deed : PySem.W.codeIn K cd_is_tree_deed "is_tree_deed" = true)
    (k_is_tree_deed : PySem.W.keepIn K (.ref f_is_tree_deed) = true)
    (a__is_of_path : PySem.W.nsIn K mainGlobals "_is_of_path" = some (some (.ref f__is_of_path)))
    (l__is_of_path : K.lookup f__is_of_path = some ⟨oc__is_of_path, od__is_of_path, .func (PySem.W.fnOf "_is_of_path" "_is_of_path" (defArgs s__is_of_path) (defBody s__is_of_path) (defScope s__is_of_path) .none kV__is_of_path dc__is_of_path pm__is_of_path an__is_of_path cd__is_of_path ct__is_of_path), sl__is_of_path⟩)
    (c__is_of_path : PySem.W.codeIn K cd__is_of_path "_is_of_path" = true)
    (k__is_of_path : PySem.W.keepIn K (.ref f__is_of_path) = true)
    (a__is_cut : PySem.W.nsIn K mainGlobals "_is_cut" = some (some (.ref f__is_cut)))
    (l__is_cut : K.lookup f__is_cut = some ⟨oc__is_cut, od__is_cut, .func (PySem.W.fnOf "_is_cut" "_is_cut" (defArgs s__is_cut) (defBody s__is_cut) (defScope s__is_cut) .none kV__is_cut dc__is_cut pm__is_cut an__is_cut cd__is_cut ct__is_cut), sl__is_cut⟩)
    (c__is_cut : PySem.W.codeIn K cd__is_cut "_is_cut" = true)
    (k__is_cut : PySem.W.keepIn K (.ref f__is_cut) = true)
    (a__is_rights : PySem.W.nsIn K mainGlobals "_is_rights" = some (some (.ref f__is_rights)))
    (l__is_rights : K.lookup f__is_rights = some ⟨oc__is_rights, od__is_rights, .func (PySem.W.fnOf "_is_rights" "_is_rights" (defArgs s__is_rights) (defBody s__is_rights) (defScope s__is_rights) .none kV__is_rights dc__is_rights pm__is_rights an__is_rights cd__is_rights ct__is_rights), sl__is_rights⟩)
    (c__is_rights : PySem.W.codeIn K cd__is_rights "_is_rights" = true)
    (k__is_rights : PySem.W.keepIn K (.ref f__is_rights) = true)
    (a_give_rights : PySem.W.nsIn K mainGlobals "give_rights" = some (some (.ref f_give_rights)))
    (l_give_rights : K.lookup f_give_rights = some ⟨oc_give_rights, od_give_rights, .func (PySem.W.fnOf "give_rights" "give_rights" (defArgs s_give_rights) (defBody s_give_rights) (defScope s_give_rights) .none kV_give_rights dc_give_rights pm_give_rights an_give_rights cd_give_rights ct_give_rights), sl_give_rights⟩)
    (c_give_rights : PySem.W.codeIn K cd_give_rights "give_rights" = true)
    (k_give_rights : PySem.W.keepIn K (.ref f_give_rights) = true)
    (a_lets : PySem.W.nsIn K mainGlobals "lets" = some (some (.ref f_lets)))
    (l_lets : K.lookup f_lets = some ⟨oc_lets, od_lets, .func (PySem.W.fnOf "lets" "lets" (defArgs s_lets) (defBody s_lets) (defScope s_lets) .none kV_lets dc_lets pm_lets an_lets cd_lets ct_lets), sl_lets⟩)
    (c_lets : PySem.W.codeIn K cd_lets "lets" = true)
    (k_lets : PySem.W.keepIn K (.ref f_lets) = true)
    (a_gone_along : PySem.W.nsIn K mainGlobals "gone_along" = some (some (.ref f_gone_along)))
    (l_gone_along : K.lookup f_gone_along = some ⟨oc_gone_along, od_gone_along, .func (PySem.W.fnOf "gone_along" "gone_along" (defArgs s_gone_along) (defBody s_gone_along) (defScope s_gone_along) .none kV_gone_along dc_gone_along pm_gone_along an_gone_along cd_gone_along ct_gone_along), sl_gone_along⟩)
    (c_gone_along : PySem.W.codeIn K cd_gone_along "gone_along" = true)
    (k_gone_along : PySem.W.keepIn K (.ref f_gone_along) = true)
    (a_come_to : PySem.W.nsIn K mainGlobals "come_to" = some (some (.ref f_come_to)))
    (l_come_to : K.lookup f_come_to = some ⟨oc_come_to, od_come_to, .func (PySem.W.fnOf "come_to" "come_to" (defArgs s_come_to) (defBody s_come_to) (defScope s_come_to) .none kV_come_to dc_come_to pm_come_to an_come_to cd_come_to ct_come_to), sl_come_to⟩)
    (c_come_to : PySem.W.codeIn K cd_come_to "come_to" = true)
    (k_come_to : PySem.W.keepIn K (.ref f_come_to) = true)
    (a_file_at : PySem.W.nsIn K mainGlobals "file_at" = some (some (.ref f_file_at)))
    (l_file_at : K.lookup f_file_at = some ⟨oc_file_at, od_file_at, .func (PySem.W.fnOf "file_at" "file_at" (defArgs s_file_at) (defBody s_file_at) (defScope s_file_at) .none kV_file_at dc_file_at pm_file_at an_file_at cd_file_at ct_file_at), sl_file_at⟩)
    (c_file_at : PySem.W.codeIn K cd_file_at "file_at" = true)
    (k_file_at : PySem.W.keepIn K (.ref f_file_at) = true)
    (a_owns : PySem.W.nsIn K mainGlobals "owns" = some (some (.ref f_owns)))
    (l_owns : K.lookup f_owns = some ⟨oc_owns, od_owns, .func (PySem.W.fnOf "owns" "owns" (defArgs s_owns) (defBody s_owns) (defScope s_owns) .none kV_owns dc_owns pm_owns an_owns cd_owns ct_owns), sl_owns⟩)
    (c_owns : PySem.W.codeIn K cd_owns "owns" = true)
    (k_owns : PySem.W.keepIn K (.ref f_owns) = true)
    (a_has_room : PySem.W.nsIn K mainGlobals "has_room" = some (some (.ref f_has_room)))
    (l_has_room : K.lookup f_has_room = some ⟨oc_has_room, od_has_room, .func (PySem.W.fnOf "has_room" "has_room" (defArgs s_has_room) (defBody s_has_room) (defScope s_has_room) .none kV_has_room dc_has_room pm_has_room an_has_room cd_has_room ct_has_room), sl_has_room⟩)
    (c_has_room : PySem.W.codeIn K cd_has_room "has_room" = true)
    (k_has_room : PySem.W.keepIn K (.ref f_has_room) = true)
    (a_used : PySem.W.nsIn K mainGlobals "used" = some (some (.ref f_used)))
    (l_used : K.lookup f_used = some ⟨oc_used, od_used, .func (PySem.W.fnOf "used" "used" (defArgs s_used) (defBody s_used) (defScope s_used) .none kV_used dc_used pm_used an_used cd_used ct_used), sl_used⟩)
    (c_used : PySem.W.codeIn K cd_used "used" = true)
    (k_used : PySem.W.keepIn K (.ref f_used) = true)
    (a_held : PySem.W.nsIn K mainGlobals "held" = some (some (.ref f_held)))
    (l_held : K.lookup f_held = some ⟨oc_held, od_held, .func (PySem.W.fnOf "held" "held" (defArgs s_held) (defBody s_held) (defScope s_held) .none kV_held dc_held pm_held an_held cd_held ct_held), sl_held⟩)
    (c_held : PySem.W.codeIn K cd_held "held" = true)
    (k_held : PySem.W.keepIn K (.ref f_held) = true)
    (a__strained_folders : PySem.W.nsIn K mainGlobals "_strained_folders" = some (some (.ref f__strained_folders)))
    (l__strained_folders : K.lookup f__strained_folders = some ⟨oc__strained_folders, od__strained_folders, .func (PySem.W.fnOf "_strained_folders" "_strained_folders" (defArgs s__strained_folders) (defBody s__strained_folders) (defScope s__strained_folders) .none kV__strained_folders dc__strained_folders pm__strained_folders an__strained_folders cd__strained_folders ct__strained_folders), sl__strained_folders⟩)
    (c__strained_folders : PySem.W.codeIn K cd__strained_folders "_strained_folders" = true)
    (k__strained_folders : PySem.W.keepIn K (.ref f__strained_folders) = true)
    (a__strained_users : PySem.W.nsIn K mainGlobals "_strained_users" = some (some (.ref f__strained_users)))
    (l__strained_users : K.lookup f__strained_users = some ⟨oc__strained_users, od__strained_users, .func (PySem.W.fnOf "_strained_users" "_strained_users" (defArgs s__strained_users) (defBody s__strained_users) (defScope s__strained_users) .none kV__strained_users dc__strained_users pm__strained_users an__strained_users cd__strained_users ct__strained_users), sl__strained_users⟩)
    (c__strained_users : PySem.W.codeIn K cd__strained_users "_strained_users" = true)
    (k__strained_users : PySem.W.keepIn K (.ref f__strained_users) = true)
    (a_shortened : PySem.W.nsIn K mainGlobals "shortened" = some (some (.ref f_shortened)))
    (l_shortened : K.lookup f_shortened = some ⟨oc_shortened, od_shortened, .func (PySem.W.fnOf "shortened" "shortened" (defArgs s_shortened) (defBody s_shortened) (defScope s_shortened) .none kV_shortened dc_shortened pm_shortened an_shortened cd_shortened ct_shortened), sl_shortened⟩)
    (c_shortened : PySem.W.codeIn K cd_shortened "shortened" = true)
    (k_shortened : PySem.W.keepIn K (.ref f_shortened) = true)
    (a__first_cells : PySem.W.nsIn K mainGlobals "_first_cells" = some (some (.ref f__first_cells)))
    (l__first_cells : K.lookup f__first_cells = some ⟨oc__first_cells, od__first_cells, .func (PySem.W.fnOf "_first_cells" "_first_cells" (defArgs s__first_cells) (defBody s__first_cells) (defScope s__first_cells) .none kV__first_cells dc__first_cells pm__first_cells an__first_cells cd__first_cells ct__first_cells), sl__first_cells⟩)
    (c__first_cells : PySem.W.codeIn K cd__first_cells "_first_cells" = true)
    (k__first_cells : PySem.W.keepIn K (.ref f__first_cells) = true)
    (a__joined : PySem.W.nsIn K mainGlobals "_joined" = some (some (.ref f__joined)))
    (l__joined : K.lookup f__joined = some ⟨oc__joined, od__joined, .func (PySem.W.fnOf "_joined" "_joined" (defArgs s__joined) (defBody s__joined) (defScope s__joined) .none kV__joined dc__joined pm__joined an__joined cd__joined ct__joined), sl__joined⟩)
    (c__joined : PySem.W.codeIn K cd__joined "_joined" = true)
    (k__joined : PySem.W.keepIn K (.ref f__joined) = true)
    (a__goes_on : PySem.W.nsIn K mainGlobals "_goes_on" = some (some (.ref f__goes_on)))
    (l__goes_on : K.lookup f__goes_on = some ⟨oc__goes_on, od__goes_on, .func (PySem.W.fnOf "_goes_on" "_goes_on" (defArgs s__goes_on) (defBody s__goes_on) (defScope s__goes_on) .none kV__goes_on dc__goes_on pm__goes_on an__goes_on cd__goes_on ct__goes_on), sl__goes_on⟩)
    (c__goes_on : PySem.W.codeIn K cd__goes_on "_goes_on" = true)
    (k__goes_on : PySem.W.keepIn K (.ref f__goes_on) = true)
    (a_gathered : PySem.W.nsIn K mainGlobals "gathered" = some (some (.ref f_gathered)))
    (l_gathered : K.lookup f_gathered = some ⟨oc_gathered, od_gathered, .func (PySem.W.fnOf "gathered" "gathered" (defArgs s_gathered) (defBody s_gathered) (defScope s_gathered) .none kV_gathered dc_gathered pm_gathered an_gathered cd_gathered ct_gathered), sl_gathered⟩)
    (c_gathered : PySem.W.codeIn K cd_gathered "gathered" = true)
    (k_gathered : PySem.W.keepIn K (.ref f_gathered) = true)
    (a_filled : PySem.W.nsIn K mainGlobals "filled" = some (some (.ref f_filled)))
    (l_filled : K.lookup f_filled = some ⟨oc_filled, od_filled, .func (PySem.W.fnOf "filled" "filled" (defArgs s_filled) (defBody s_filled) (defScope s_filled) .none kV_filled dc_filled pm_filled an_filled cd_filled ct_filled), sl_filled⟩)
    (c_filled : PySem.W.codeIn K cd_filled "filled" = true)
    (k_filled : PySem.W.keepIn K (.ref f_filled) = true)
    (a_lapse : PySem.W.nsIn K mainGlobals "lapse" = some (some (.ref f_lapse)))
    (l_lapse : K.lookup f_lapse = some ⟨oc_lapse, od_lapse, .func (PySem.W.fnOf "lapse" "lapse" (defArgs s_lapse) (defBody s_lapse) (defScope s_lapse) .none kV_lapse dc_lapse pm_lapse an_lapse cd_lapse ct_lapse), sl_lapse⟩)
    (c_lapse : PySem.W.codeIn K cd_lapse "lapse" = true)
    (k_lapse : PySem.W.keepIn K (.ref f_lapse) = true)
    (a_room_deed : PySem.W.nsIn K mainGlobals "room_deed" = some (some (.ref f_room_deed)))
    (l_room_deed : K.lookup f_room_deed = some ⟨oc_room_deed, od_room_deed, .func (PySem.W.fnOf "room_deed" "room_deed" (defArgs s_room_deed) (defBody s_room_deed) (defScope s_room_deed) .none kV_room_deed dc_room_deed pm_room_deed an_room_deed cd_room_deed ct_room_deed), sl_room_deed⟩)
    (c_room_deed : PySem.W.codeIn K cd_room_deed "room_deed" = true)
    (k_room_deed : PySem.W.keepIn K (.ref f_room_deed) = true)
    (a_telling_deed : PySem.W.nsIn K mainGlobals "telling_deed" = some (some (.ref f_telling_deed)))
    (l_telling_deed : K.lookup f_telling_deed = some ⟨oc_telling_deed, od_telling_deed, .func (PySem.W.fnOf "telling_deed" "telling_deed" (defArgs s_telling_deed) (defBody s_telling_deed) (defScope s_telling_deed) .none kV_telling_deed dc_telling_deed pm_telling_deed an_telling_deed cd_telling_deed ct_telling_deed), sl_telling_deed⟩)
    (c_telling_deed : PySem.W.codeIn K cd_telling_deed "telling_deed" = true)
    (k_telling_deed : PySem.W.keepIn K (.ref f_telling_deed) = true)
    (a_shape_deed : PySem.W.nsIn K mainGlobals "shape_deed" = some (some (.ref f_shape_deed)))
    (l_shape_deed : K.lookup f_shape_deed = some ⟨oc_shape_deed, od_shape_deed, .func (PySem.W.fnOf "shape_deed" "shape_deed" (defArgs s_shape_deed) (defBody s_shape_deed) (defScope s_shape_deed) .none kV_shape_deed dc_shape_deed pm_shape_deed an_shape_deed cd_shape_deed ct_shape_deed), sl_shape_deed⟩)
    (c_shape_deed : PySem.W.codeIn K cd_shape_deed "shape_deed" = true)
    (k_shape_deed : PySem.W.keepIn K (.ref f_shape_deed) = true)
    (a__folder_of : PySem.W.nsIn K mainGlobals "_folder_of" = some (some (.ref f__folder_of)))
    (l__folder_of : K.lookup f__folder_of = some ⟨oc__folder_of, od__folder_of, .func (PySem.W.fnOf "_folder_of" "_folder_of" (defArgs s__folder_of) (defBody s__folder_of) (defScope s__folder_of) .none kV__folder_of dc__folder_of pm__folder_of an__folder_of cd__folder_of ct__folder_of), sl__folder_of⟩)
    (c__folder_of : PySem.W.codeIn K cd__folder_of "_folder_of" = true)
    (k__folder_of : PySem.W.keepIn K (.ref f__folder_of) = true)
    (a__new_place : PySem.W.nsIn K mainGlobals "_new_place" = some (some (.ref f__new_place)))
    (l__new_place : K.lookup f__new_place = some ⟨oc__new_place, od__new_place, .func (PySem.W.fnOf "_new_place" "_new_place" (defArgs s__new_place) (defBody s__new_place) (defScope s__new_place) .none kV__new_place dc__new_place pm__new_place an__new_place cd__new_place ct__new_place), sl__new_place⟩)
    (c__new_place : PySem.W.codeIn K cd__new_place "_new_place" = true)
    (k__new_place : PySem.W.keepIn K (.ref f__new_place) = true)
    (a__old_place : PySem.W.nsIn K mainGlobals "_old_place" = some (some (.ref f__old_place)))
    (l__old_place : K.lookup f__old_place = some ⟨oc__old_place, od__old_place, .func (PySem.W.fnOf "_old_place" "_old_place" (defArgs s__old_place) (defBody s__old_place) (defScope s__old_place) .none kV__old_place dc__old_place pm__old_place an__old_place cd__old_place ct__old_place), sl__old_place⟩)
    (c__old_place : PySem.W.codeIn K cd__old_place "_old_place" = true)
    (k__old_place : PySem.W.keepIn K (.ref f__old_place) = true)
    (a__make : PySem.W.nsIn K mainGlobals "_make" = some (some (.ref f__make)))
    (l__make : K.lookup f__make = some ⟨oc__make, od__make, .func (PySem.W.fnOf "_make" "_make" (defArgs s__make) (defBody s__make) (defScope s__make) .none kV__make dc__make pm__make an__make cd__make ct__make), sl__make⟩)
    (c__make : PySem.W.codeIn K cd__make "_make" = true)
    (k__make : PySem.W.keepIn K (.ref f__make) = true)
    (a__strike : PySem.W.nsIn K mainGlobals "_strike" = some (some (.ref f__strike)))
    (l__strike : K.lookup f__strike = some ⟨oc__strike, od__strike, .func (PySem.W.fnOf "_strike" "_strike" (defArgs s__strike) (defBody s__strike) (defScope s__strike) .none kV__strike dc__strike pm__strike an__strike cd__strike ct__strike), sl__strike⟩)
    (c__strike : PySem.W.codeIn K cd__strike "_strike" = true)
    (k__strike : PySem.W.keepIn K (.ref f__strike) = true)
    (a__cut : PySem.W.nsIn K mainGlobals "_cut" = some (some (.ref f__cut)))
    (l__cut : K.lookup f__cut = some ⟨oc__cut, od__cut, .func (PySem.W.fnOf "_cut" "_cut" (defArgs s__cut) (defBody s__cut) (defScope s__cut) .none kV__cut dc__cut pm__cut an__cut cd__cut ct__cut), sl__cut⟩)
    (c__cut : PySem.W.codeIn K cd__cut "_cut" = true)
    (k__cut : PySem.W.keepIn K (.ref f__cut) = true)
    (a__rights : PySem.W.nsIn K mainGlobals "_rights" = some (some (.ref f__rights)))
    (l__rights : K.lookup f__rights = some ⟨oc__rights, od__rights, .func (PySem.W.fnOf "_rights" "_rights" (defArgs s__rights) (defBody s__rights) (defScope s__rights) .none kV__rights dc__rights pm__rights an__rights cd__rights ct__rights), sl__rights⟩)
    (c__rights : PySem.W.codeIn K cd__rights "_rights" = true)
    (k__rights : PySem.W.keepIn K (.ref f__rights) = true)
    (a_told_of_path : PySem.W.nsIn K mainGlobals "told_of_path" = some (some (.ref f_told_of_path)))
    (l_told_of_path : K.lookup f_told_of_path = some ⟨oc_told_of_path, od_told_of_path, .func (PySem.W.fnOf "told_of_path" "told_of_path" (defArgs s_told_of_path) (defBody s_told_of_path) (defScope s_told_of_path) .none kV_told_of_path dc_told_of_path pm_told_of_path an_told_of_path cd_told_of_path ct_told_of_path), sl_told_of_path⟩)
    (c_told_of_path : PySem.W.codeIn K cd_told_of_path "told_of_path" = true)
    (k_told_of_path : PySem.W.keepIn K (.ref f_told_of_path) = true)
    (a__looked : PySem.W.nsIn K mainGlobals "_looked" = some (some (.ref f__looked)))
    (l__looked : K.lookup f__looked = some ⟨oc__looked, od__looked, .func (PySem.W.fnOf "_looked" "_looked" (defArgs s__looked) (defBody s__looked) (defScope s__looked) .none kV__looked dc__looked pm__looked an__looked cd__looked ct__looked), sl__looked⟩)
    (c__looked : PySem.W.codeIn K cd__looked "_looked" = true)
    (k__looked : PySem.W.keepIn K (.ref f__looked) = true)
    (a__told_of : PySem.W.nsIn K mainGlobals "_told_of" = some (some (.ref f__told_of)))
    (l__told_of : K.lookup f__told_of = some ⟨oc__told_of, od__told_of, .func (PySem.W.fnOf "_told_of" "_told_of" (defArgs s__told_of) (defBody s__told_of) (defScope s__told_of) .none kV__told_of dc__told_of pm__told_of an__told_of cd__told_of ct__told_of), sl__told_of⟩)
    (c__told_of : PySem.W.codeIn K cd__told_of "_told_of" = true)
    (k__told_of : PySem.W.keepIn K (.ref f__told_of) = true)
    (a_wanted_parts : PySem.W.nsIn K mainGlobals "wanted_parts" = some (some (.ref f_wanted_parts)))
    (l_wanted_parts : K.lookup f_wanted_parts = some ⟨oc_wanted_parts, od_wanted_parts, .func (PySem.W.fnOf "wanted_parts" "wanted_parts" (defArgs s_wanted_parts) (defBody s_wanted_parts) (defScope s_wanted_parts) .none kV_wanted_parts dc_wanted_parts pm_wanted_parts an_wanted_parts cd_wanted_parts ct_wanted_parts), sl_wanted_parts⟩)
    (c_wanted_parts : PySem.W.codeIn K cd_wanted_parts "wanted_parts" = true)
    (k_wanted_parts : PySem.W.keepIn K (.ref f_wanted_parts) = true)
    (a__law_purse : PySem.W.nsIn K mainGlobals "_law_purse" = some (some (.ref f__law_purse)))
    (l__law_purse : K.lookup f__law_purse = some ⟨oc__law_purse, od__law_purse, .func (PySem.W.fnOf "_law_purse" "_law_purse" (defArgs s__law_purse) (defBody s__law_purse) (defScope s__law_purse) .none kV__law_purse dc__law_purse pm__law_purse an__law_purse cd__law_purse ct__law_purse), sl__law_purse⟩)
    (c__law_purse : PySem.W.codeIn K cd__law_purse "_law_purse" = true)
    (k__law_purse : PySem.W.keepIn K (.ref f__law_purse) = true)
    (a__law_take : PySem.W.nsIn K mainGlobals "_law_take" = some (some (.ref f__law_take)))
    (l__law_take : K.lookup f__law_take = some ⟨oc__law_take, od__law_take, .func (PySem.W.fnOf "_law_take" "_law_take" (defArgs s__law_take) (defBody s__law_take) (defScope s__law_take) .none kV__law_take dc__law_take pm__law_take an__law_take cd__law_take ct__law_take), sl__law_take⟩)
    (c__law_take : PySem.W.codeIn K cd__law_take "_law_take" = true)
    (k__law_take : PySem.W.keepIn K (.ref f__law_take) = true)
    (a__law_people : PySem.W.nsIn K mainGlobals "_law_people" = some (some (.ref f__law_people)))
    (l__law_people : K.lookup f__law_people = some ⟨oc__law_people, od__law_people, .func (PySem.W.fnOf "_law_people" "_law_people" (defArgs s__law_people) (defBody s__law_people) (defScope s__law_people) .none kV__law_people dc__law_people pm__law_people an__law_people cd__law_people ct__law_people), sl__law_people⟩)
    (c__law_people : PySem.W.codeIn K cd__law_people "_law_people" = true)
    (k__law_people : PySem.W.keepIn K (.ref f__law_people) = true)
    (a__law_clubs : PySem.W.nsIn K mainGlobals "_law_clubs" = some (some (.ref f__law_clubs)))
    (l__law_clubs : K.lookup f__law_clubs = some ⟨oc__law_clubs, od__law_clubs, .func (PySem.W.fnOf "_law_clubs" "_law_clubs" (defArgs s__law_clubs) (defBody s__law_clubs) (defScope s__law_clubs) .none kV__law_clubs dc__law_clubs pm__law_clubs an__law_clubs cd__law_clubs ct__law_clubs), sl__law_clubs⟩)
    (c__law_clubs : PySem.W.codeIn K cd__law_clubs "_law_clubs" = true)
    (k__law_clubs : PySem.W.keepIn K (.ref f__law_clubs) = true)
    (a__law_grants : PySem.W.nsIn K mainGlobals "_law_grants" = some (some (.ref f__law_grants)))
    (l__law_grants : K.lookup f__law_grants = some ⟨oc__law_grants, od__law_grants, .func (PySem.W.fnOf "_law_grants" "_law_grants" (defArgs s__law_grants) (defBody s__law_grants) (defScope s__law_grants) .none kV__law_grants dc__law_grants pm__law_grants an__law_grants cd__law_grants ct__law_grants), sl__law_grants⟩)
    (c__law_grants : PySem.W.codeIn K cd__law_grants "_law_grants" = true)
    (k__law_grants : PySem.W.keepIn K (.ref f__law_grants) = true)
    (a__law_let : PySem.W.nsIn K mainGlobals "_law_let" = some (some (.ref f__law_let)))
    (l__law_let : K.lookup f__law_let = some ⟨oc__law_let, od__law_let, .func (PySem.W.fnOf "_law_let" "_law_let" (defArgs s__law_let) (defBody s__law_let) (defScope s__law_let) .none kV__law_let dc__law_let pm__law_let an__law_let cd__law_let ct__law_let), sl__law_let⟩)
    (c__law_let : PySem.W.codeIn K cd__law_let "_law_let" = true)
    (k__law_let : PySem.W.keepIn K (.ref f__law_let) = true)
    (a__law_made : PySem.W.nsIn K mainGlobals "_law_made" = some (some (.ref f__law_made)))
    (l__law_made : K.lookup f__law_made = some ⟨oc__law_made, od__law_made, .func (PySem.W.fnOf "_law_made" "_law_made" (defArgs s__law_made) (defBody s__law_made) (defScope s__law_made) .none kV__law_made dc__law_made pm__law_made an__law_made cd__law_made ct__law_made), sl__law_made⟩)
    (c__law_made : PySem.W.codeIn K cd__law_made "_law_made" = true)
    (k__law_made : PySem.W.keepIn K (.ref f__law_made) = true)
    (a__law_due : PySem.W.nsIn K mainGlobals "_law_due" = some (some (.ref f__law_due)))
    (l__law_due : K.lookup f__law_due = some ⟨oc__law_due, od__law_due, .func (PySem.W.fnOf "_law_due" "_law_due" (defArgs s__law_due) (defBody s__law_due) (defScope s__law_due) .none kV__law_due dc__law_due pm__law_due an__law_due cd__law_due ct__law_due), sl__law_due⟩)
    (c__law_due : PySem.W.codeIn K cd__law_due "_law_due" = true)
    (k__law_due : PySem.W.keepIn K (.ref f__law_due) = true)
    (a__law_one_right : PySem.W.nsIn K mainGlobals "_law_one_right" = some (some (.ref f__law_one_right)))
    (l__law_one_right : K.lookup f__law_one_right = some ⟨oc__law_one_right, od__law_one_right, .func (PySem.W.fnOf "_law_one_right" "_law_one_right" (defArgs s__law_one_right) (defBody s__law_one_right) (defScope s__law_one_right) .none kV__law_one_right dc__law_one_right pm__law_one_right an__law_one_right cd__law_one_right ct__law_one_right), sl__law_one_right⟩)
    (c__law_one_right : PySem.W.codeIn K cd__law_one_right "_law_one_right" = true)
    (k__law_one_right : PySem.W.keepIn K (.ref f__law_one_right) = true)
    (a_law : PySem.W.nsIn K mainGlobals "law" = some (some (.ref f_law)))
    (l_law : K.lookup f_law = some ⟨oc_law, od_law, .func (PySem.W.fnOf "law" "law" (defArgs s_law) (defBody s_law) (defScope s_law) .none kV_law dc_law pm_law an_law cd_law ct_law), sl_law⟩)
    (c_law : PySem.W.codeIn K cd_law "law" = true)
    (k_law : PySem.W.keepIn K (.ref f_law) = true)
    (a_Folder : PySem.W.nsIn K mainGlobals "Folder" = some (some (.ref C_Folder)))
    (p1_Folder : PySem.W.plainGet K C_Folder Str.empty = true)
    (p2_Folder : PySem.W.hasDictIn K C_Folder = true)
    (p3_Folder : PySem.W.plainOver K C_Folder = true)
    (p4_Folder : PySem.W.findIn K (.ref C_Folder) "__setattr__" = some (some (.builtin "object.__setattr__")))
    (a_File : PySem.W.nsIn K mainGlobals "File" = some (some (.ref C_File)))
    (p1_File : PySem.W.plainGet K C_File Str.empty = true)
    (p2_File : PySem.W.hasDictIn K C_File = true)
    (p3_File : PySem.W.plainOver K C_File = true)
    (p4_File : PySem.W.findIn K (.ref C_File) "__setattr__" = some (some (.builtin "object.__setattr__")))
    (a_Core : PySem.W.nsIn K mainGlobals "Core" = some (some (.ref C_Core)))
    (p1_Core : PySem.W.plainGet K C_Core Str.empty = true)
    (p2_Core : PySem.W.hasDictIn K C_Core = true)
    (p3_Core : PySem.W.plainOver K C_Core = true)
    (p4_Core : PySem.W.findIn K (.ref C_Core) "__setattr__" = some (some (.builtin "object.__setattr__")))
    (a_Grove : PySem.W.nsIn K mainGlobals "Grove" = some (some (.ref C_Grove)))
    (p1_Grove : PySem.W.plainGet K C_Grove Str.empty = true)
    (p2_Grove : PySem.W.hasDictIn K C_Grove = true)
    (p3_Grove : PySem.W.plainOver K C_Grove = true)
    (p4_Grove : PySem.W.findIn K (.ref C_Grove) "__setattr__" = some (some (.builtin "object.__setattr__")))
    (a_Tree : PySem.W.nsIn K mainGlobals "Tree" = some (some (.ref C_Tree)))
    (p1_Tree : PySem.W.plainGet K C_Tree Str.empty = true)
    (p2_Tree : PySem.W.hasDictIn K C_Tree = true)
    (p3_Tree : PySem.W.plainOver K C_Tree = true)
    (p4_Tree : PySem.W.findIn K (.ref C_Tree) "__setattr__" = some (some (.builtin "object.__setattr__")))
    (a_Promise : PySem.W.nsIn K mainGlobals "Promise" = some (some (.ref C_Promise)))
    (p1_Promise : PySem.W.plainGet K C_Promise Str.empty = true)
    (p2_Promise : PySem.W.hasDictIn K C_Promise = true)
    (p3_Promise : PySem.W.plainOver K C_Promise = true)
    (p4_Promise : PySem.W.findIn K (.ref C_Promise) "__setattr__" = some (some (.builtin "object.__setattr__")))
    (h_Folder : K.lookup C_Folder = some ⟨och_Folder, odh_Folder, .cls cdh_Folder, osh_Folder⟩)
    (t_Folder : PySem.W.typeIn K (.ref C_Folder) = some (.type "type"))
    (h_File : K.lookup C_File = some ⟨och_File, odh_File, .cls cdh_File, osh_File⟩)
    (t_File : PySem.W.typeIn K (.ref C_File) = some (.type "type"))
    (m1_Folder : PySem.W.makesIn K C_Folder = true)
    (i_Folder : PySem.W.findIn K (.ref C_Folder) "__init__" = some (some (.ref f_Folder_init)))
    (n_Folder : PySem.W.isFn K (.ref f_Folder_init) = true)
    (kc_Folder : PySem.W.keepIn K (.ref C_Folder) = true)
    (l_Folder_init : K.lookup f_Folder_init = some ⟨oc_Folder_init, od_Folder_init, .func (PySem.W.fnOf "__init__" "Folder.__init__" (defArgs s_Folder_init) (defBody s_Folder_init) (defScope s_Folder_init) .none kV_Folder_init dc_Folder_init pm_Folder_init an_Folder_init cd_Folder_init ct_Folder_init), sl_Folder_init⟩)
    (c_Folder_init : PySem.W.codeIn K cd_Folder_init "Folder.__init__" = true)
    (k_Folder_init : PySem.W.keepIn K (.ref f_Folder_init) = true)
    (m1_File : PySem.W.makesIn K C_File = true)
    (i_File : PySem.W.findIn K (.ref C_File) "__init__" = some (some (.ref f_File_init)))
    (n_File : PySem.W.isFn K (.ref f_File_init) = true)
    (kc_File : PySem.W.keepIn K (.ref C_File) = true)
    (l_File_init : K.lookup f_File_init = some ⟨oc_File_init, od_File_init, .func (PySem.W.fnOf "__init__" "File.__init__" (defArgs s_File_init) (defBody s_File_init) (defScope s_File_init) .none kV_File_init dc_File_init pm_File_init an_File_init cd_File_init ct_File_init), sl_File_init⟩)
    (c_File_init : PySem.W.codeIn K cd_File_init "File.__init__" = true)
    (k_File_init : PySem.W.keepIn K (.ref f_File_init) = true)
    (m1_Core : PySem.W.makesIn K C_Core = true)
    (i_Core : PySem.W.findIn K (.ref C_Core) "__init__" = some (some (.ref f_Core_init)))
    (n_Core : PySem.W.isFn K (.ref f_Core_init) = true)
    (kc_Core : PySem.W.keepIn K (.ref C_Core) = true)
    (l_Core_init : K.lookup f_Core_init = some ⟨oc_Core_init, od_Core_init, .func (PySem.W.fnOf "__init__" "Core.__init__" (defArgs s_Core_init) (defBody s_Core_init) (defScope s_Core_init) .none kV_Core_init dc_Core_init pm_Core_init an_Core_init cd_Core_init ct_Core_init), sl_Core_init⟩)
    (c_Core_init : PySem.W.codeIn K cd_Core_init "Core.__init__" = true)
    (k_Core_init : PySem.W.keepIn K (.ref f_Core_init) = true)
    (m1_Tree : PySem.W.makesIn K C_Tree = true)
    (i_Tree : PySem.W.findIn K (.ref C_Tree) "__init__" = some (some (.ref f_Tree_init)))
    (n_Tree : PySem.W.isFn K (.ref f_Tree_init) = true)
    (kc_Tree : PySem.W.keepIn K (.ref C_Tree) = true)
    (l_Tree_init : K.lookup f_Tree_init = some ⟨oc_Tree_init, od_Tree_init, .func (PySem.W.fnOf "__init__" "Tree.__init__" (defArgs s_Tree_init) (defBody s_Tree_init) (defScope s_Tree_init) (.ref T_dfl) kV_Tree_init dc_Tree_init pm_Tree_init an_Tree_init cd_Tree_init ct_Tree_init), sl_Tree_init⟩)
    (c_Tree_init : PySem.W.codeIn K cd_Tree_init "Tree.__init__" = true)
    (k_Tree_init : PySem.W.keepIn K (.ref f_Tree_init) = true)
    (dfl_Tree : K.lookup T_dfl = some ⟨oc_dfl, od_dfl, .seq #[.ref E_dfl] n_dfl, sl_dfl⟩)
    (r1_Grove : PySem.W.readsIn K C_Grove (.type "type") = true)
    (r2_Grove : PySem.W.specialIn K (.ref C_Grove) "__getattribute__" = some (some (.builtin "type.__getattribute__")))
    (fc_Grove : PySem.W.findCls K (.ref C_Grove) (.type "type") "__init__" = some (.val (.ref f_Grove_init)))
    (l_Grove_init : K.lookup f_Grove_init = some ⟨oc_Grove_init, od_Grove_init, .func (PySem.W.fnOf "__init__" "Grove.__init__" (defArgs s_Grove_init) (defBody s_Grove_init) (defScope s_Grove_init) .none kV_Grove_init dc_Grove_init pm_Grove_init an_Grove_init cd_Grove_init ct_Grove_init), sl_Grove_init⟩)
    (c_Grove_init : PySem.W.codeIn K cd_Grove_init "Grove.__init__" = true)
    (k_Grove_init : PySem.W.keepIn K (.ref f_Grove_init) = true)
    (i_Core_act : PySem.W.findIn K (.ref C_Core) "act" = some (some (.ref f_Core_act)))
    (n_Core_act : PySem.W.isFn K (.ref f_Core_act) = true)
    (l_Core_act : K.lookup f_Core_act = some ⟨oc_Core_act, od_Core_act, .func (PySem.W.fnOf "act" "Core.act" (defArgs s_Core_act) (defBody s_Core_act) (defScope s_Core_act) .none kV_Core_act dc_Core_act pm_Core_act an_Core_act cd_Core_act ct_Core_act), sl_Core_act⟩)
    (c_Core_act : PySem.W.codeIn K cd_Core_act "Core.act" = true)
    (k_Core_act : PySem.W.keepIn K (.ref f_Core_act) = true)
    (i_Grove_reply : PySem.W.findIn K (.ref C_Tree) "reply" = some (some (.ref f_Grove_reply)))
    (n_Grove_reply : PySem.W.isFn K (.ref f_Grove_reply) = true)
    (l_Grove_reply : K.lookup f_Grove_reply = some ⟨oc_Grove_reply, od_Grove_reply, .func (PySem.W.fnOf "reply" "Grove.reply" (defArgs s_Grove_reply) (defBody s_Grove_reply) (defScope s_Grove_reply) .none kV_Grove_reply dc_Grove_reply pm_Grove_reply an_Grove_reply cd_Grove_reply ct_Grove_reply), sl_Grove_reply⟩)
    (c_Grove_reply : PySem.W.codeIn K cd_Grove_reply "Grove.reply" = true)
    (k_Grove_reply : PySem.W.keepIn K (.ref f_Grove_reply) = true)
    (i_Grove_with_cells : PySem.W.findIn K (.ref C_Tree) "with_cells" = some (some (.ref f_Grove_with_cells)))
    (n_Grove_with_cells : PySem.W.isFn K (.ref f_Grove_with_cells) = true)
    (l_Grove_with_cells : K.lookup f_Grove_with_cells = some ⟨oc_Grove_with_cells, od_Grove_with_cells, .func (PySem.W.fnOf "with_cells" "Grove.with_cells" (defArgs s_Grove_with_cells) (defBody s_Grove_with_cells) (defScope s_Grove_with_cells) .none kV_Grove_with_cells dc_Grove_with_cells pm_Grove_with_cells an_Grove_with_cells cd_Grove_with_cells ct_Grove_with_cells), sl_Grove_with_cells⟩)
    (c_Grove_with_cells : PySem.W.codeIn K cd_Grove_with_cells "Grove.with_cells" = true)
    (k_Grove_with_cells : PySem.W.keepIn K (.ref f_Grove_with_cells) = true)
    (i_Grove_put : PySem.W.findIn K (.ref C_Tree) "_put" = some (some (.ref f_Grove_put)))
    (n_Grove_put : PySem.W.isFn K (.ref f_Grove_put) = true)
    (l_Grove_put : K.lookup f_Grove_put = some ⟨oc_Grove_put, od_Grove_put, .func (PySem.W.fnOf "_put" "Grove._put" (defArgs s_Grove_put) (defBody s_Grove_put) (defScope s_Grove_put) .none kV_Grove_put dc_Grove_put pm_Grove_put an_Grove_put cd_Grove_put ct_Grove_put), sl_Grove_put⟩)
    (c_Grove_put : PySem.W.codeIn K cd_Grove_put "Grove._put" = true)
    (k_Grove_put : PySem.W.keepIn K (.ref f_Grove_put) = true)
    (i_Tree_do : PySem.W.findIn K (.ref C_Tree) "do" = some (some (.ref f_Tree_do)))
    (n_Tree_do : PySem.W.isFn K (.ref f_Tree_do) = true)
    (l_Tree_do : K.lookup f_Tree_do = some ⟨oc_Tree_do, od_Tree_do, .func (PySem.W.fnOf "do" "Tree.do" (defArgs s_Tree_do) (defBody s_Tree_do) (defScope s_Tree_do) .none kV_Tree_do dc_Tree_do pm_Tree_do an_Tree_do cd_Tree_do ct_Tree_do), sl_Tree_do⟩)
    (c_Tree_do : PySem.W.codeIn K cd_Tree_do "Tree.do" = true)
    (k_Tree_do : PySem.W.keepIn K (.ref f_Tree_do) = true)
    (na_Folder_kind : PySem.W.findIn K (.ref C_Folder) "kind" = some none)
    (na_Folder_owner : PySem.W.findIn K (.ref C_Folder) "owner" = some none)
    (na_Folder_group : PySem.W.findIn K (.ref C_Folder) "group" = some none)
    (na_Folder_rights : PySem.W.findIn K (.ref C_Folder) "rights" = some none)
    (na_Folder_is_open : PySem.W.findIn K (.ref C_Folder) "is_open" = some none)
    (na_Folder_names : PySem.W.findIn K (.ref C_Folder) "names" = some none)
    (na_Folder_limit : PySem.W.findIn K (.ref C_Folder) "limit" = some none)
    (na_File_kind : PySem.W.findIn K (.ref C_File) "kind" = some none)
    (na_File_owner : PySem.W.findIn K (.ref C_File) "owner" = some none)
    (na_File_group : PySem.W.findIn K (.ref C_File) "group" = some none)
    (na_File_rights : PySem.W.findIn K (.ref C_File) "rights" = some none)
    (na_File_is_open : PySem.W.findIn K (.ref C_File) "is_open" = some none)
    (na_File_names : PySem.W.findIn K (.ref C_File) "names" = some none)
    (na_File_parts : PySem.W.findIn K (.ref C_File) "parts" = some none)
    (na_File_size : PySem.W.findIn K (.ref C_File) "size" = some none)
    (na_File_promised : PySem.W.findIn K (.ref C_File) "promised" = some none)
    (na_File_links : PySem.W.findIn K (.ref C_File) "links" = some none)
    (na_Core_groups : PySem.W.findIn K (.ref C_Core) "groups" = some none)
    (na_Core_members : PySem.W.findIn K (.ref C_Core) "members" = some none)
    (na_Core_clock : PySem.W.findIn K (.ref C_Core) "clock" = some none)
    (na_Core_top : PySem.W.findIn K (.ref C_Core) "top" = some none)
    (na_Core_promises : PySem.W.findIn K (.ref C_Core) "promises" = some none)
    (na_Core_made : PySem.W.findIn K (.ref C_Core) "made" = some none)
    (na_Core_limited : PySem.W.findIn K (.ref C_Core) "limited" = some none)
    (na_Core_shares : PySem.W.findIn K (.ref C_Core) "shares" = some none)
    (na_Core_is_watched : PySem.W.findIn K (.ref C_Core) "is_watched" = some none)
    (na_Core_strains : PySem.W.findIn K (.ref C_Core) "strains" = some none)
    (na_Core_snaps : PySem.W.findIn K (.ref C_Core) "snaps" = some none)
    (na_Core_snapped : PySem.W.findIn K (.ref C_Core) "snapped" = some none)
    (na_Tree_core : PySem.W.findIn K (.ref C_Tree) "core" = some none)
    (na_Tree_pieces : PySem.W.findIn K (.ref C_Tree) "pieces" = some none)
    (x1_Folder : PySem.W.findIn K (.ref C_Folder) "__class__" = some (some (.builtin "object.__class__")))
    (x2_Folder : PySem.W.mroIn K C_Folder (.type "object") = some true)
    (x3_Folder : PySem.W.subIn K (.ref C_Folder) (.type "str") = some false)
    (x1_File : PySem.W.findIn K (.ref C_File) "__class__" = some (some (.builtin "object.__class__")))
    (x2_File : PySem.W.mroIn K C_File (.type "object") = some true)
    (x3_File : PySem.W.subIn K (.ref C_File) (.type "str") = some false)
    (y1 : PySem.W.specialIn K (.builtin "object.__class__") "__get__" = some (some (.builtin "getset_descriptor.__get__")))
    (y2 : PySem.W.takesIn K (.builtin "object.__class__") = some true)
    (y3 : PySem.W.subIn K (.ref C_Folder) (.ref C_File) = some false)
    (y4 : PySem.W.subIn K (.type "str") (.ref C_File) = some false)
    (e1 : (C_Folder == C_File) = false)
    (e2 : (C_Folder == C_Core) = false)
    (e3 : (C_File == C_Core) = false)
    (z_len : PySem.W.nsIn K mainGlobals "len" = some none)
    (z_all : PySem.W.nsIn K mainGlobals "all" = some none)
    (z_any : PySem.W.nsIn K mainGlobals "any" = some none)
    (z_isinstance : PySem.W.nsIn K mainGlobals "isinstance" = some none)
    (z_repr : PySem.W.nsIn K mainGlobals "repr" = some none)
    (z_str : PySem.W.nsIn K mainGlobals "str" = some none)
    (z_tuple : PySem.W.nsIn K mainGlobals "tuple" = some none)
    (z_bool : PySem.W.nsIn K mainGlobals "bool" = some none)
    (z_int : PySem.W.nsIn K mainGlobals "int" = some none)
    (z_list : PySem.W.nsIn K mainGlobals "list" = some none)
    (z_max : PySem.W.nsIn K mainGlobals "max" = some none)
    (z_min : PySem.W.nsIn K mainGlobals "min" = some none)
    (z_range : PySem.W.nsIn K mainGlobals "range" = some none)
    (z_sum : PySem.W.nsIn K mainGlobals "sum" = some none)
    (z_dict : PySem.W.nsIn K mainGlobals "dict" = some none)
    (z_sorted : PySem.W.nsIn K mainGlobals "sorted" = some none)
    (z_set : PySem.W.nsIn K mainGlobals "set" = some none)
    (z_zip : PySem.W.nsIn K mainGlobals "zip" = some none)
    (g_ROOT : PySem.W.nsIn K mainGlobals "ROOT" = some (some (.str "root" t_ROOT)))
    (g_LETTERS : PySem.W.nsIn K mainGlobals "LETTERS" = some (some (.str "abcdefghijklmnopqrstuvwxyz" t_LETTERS)))
    (g_MOST_LETTERS : PySem.W.nsIn K mainGlobals "MOST_LETTERS" = some (some (.int 8 t_MOST_LETTERS)))
    (g_MOST_NAMES : PySem.W.nsIn K mainGlobals "MOST_NAMES" = some (some (.int 6 t_MOST_NAMES)))
    (g_MOST_GROUPS : PySem.W.nsIn K mainGlobals "MOST_GROUPS" = some (some (.int 8 t_MOST_GROUPS)))
    (g_DONE : PySem.W.nsIn K mainGlobals "DONE" = some (some (.ref A_DONE)))
    (q_DONE : K.lookup A_DONE = some ⟨.type "tuple", odt_DONE, .seq #[.str "done" tt_DONE_0] nt_DONE, slt_DONE⟩)
    (g_NO_RIGHT : PySem.W.nsIn K mainGlobals "NO_RIGHT" = some (some (.ref A_NO_RIGHT)))
    (q_NO_RIGHT : K.lookup A_NO_RIGHT = some ⟨.type "tuple", odt_NO_RIGHT, .seq #[.str "no" tt_NO_RIGHT_0, .str "noright" tt_NO_RIGHT_1] nt_NO_RIGHT, slt_NO_RIGHT⟩)
    (g_NO_ROOM : PySem.W.nsIn K mainGlobals "NO_ROOM" = some (some (.ref A_NO_ROOM)))
    (q_NO_ROOM : K.lookup A_NO_ROOM = some ⟨.type "tuple", odt_NO_ROOM, .seq #[.str "no" tt_NO_ROOM_0, .str "noroom" tt_NO_ROOM_1] nt_NO_ROOM, slt_NO_ROOM⟩)
    (g_NEW_RIGHTS : PySem.W.nsIn K mainGlobals "NEW_RIGHTS" = some (some (.ref A_NEW_RIGHTS)))
    (q_NEW_RIGHTS : K.lookup A_NEW_RIGHTS = some ⟨.type "tuple", odt_NEW_RIGHTS, .seq #[.str "rw" tt_NEW_RIGHTS_0, .str "r" tt_NEW_RIGHTS_1, .str "r" tt_NEW_RIGHTS_2] nt_NEW_RIGHTS, slt_NEW_RIGHTS⟩)
    (g_PATH_WORDS : PySem.W.nsIn K mainGlobals "PATH_WORDS" = some (some (.ref A_PATH_WORDS)))
    (q_PATH_WORDS : K.lookup A_PATH_WORDS = some ⟨.type "tuple", odt_PATH_WORDS, .seq #[.str "read" tt_PATH_WORDS_0, .str "list" tt_PATH_WORDS_1, .str "look" tt_PATH_WORDS_2] nt_PATH_WORDS, slt_PATH_WORDS⟩)
    (g_GLANCED : PySem.W.nsIn K mainGlobals "GLANCED" = some (some (.ref A_GLANCED)))
    (q_GLANCED : K.lookup A_GLANCED = some ⟨.type "tuple", odt_GLANCED, .seq #[.str "read" tt_GLANCED_0, .str "list" tt_GLANCED_1, .str "look" tt_GLANCED_2] nt_GLANCED, slt_GLANCED⟩)
    (g_RIGHTS_TEXTS : PySem.W.nsIn K mainGlobals "RIGHTS_TEXTS" = some (some (.ref A_RIGHTS_TEXTS)))
    (q_RIGHTS_TEXTS : K.lookup A_RIGHTS_TEXTS = some ⟨.type "tuple", odt_RIGHTS_TEXTS, .seq #[.str "" tt_RIGHTS_TEXTS_0, .str "r" tt_RIGHTS_TEXTS_1, .str "w" tt_RIGHTS_TEXTS_2, .str "rw" tt_RIGHTS_TEXTS_3] nt_RIGHTS_TEXTS, slt_RIGHTS_TEXTS⟩)
    (g_SIGNS : PySem.W.nsIn K mainGlobals "SIGNS" = some (some (.ref A_SIGNS)))
    (q_SIGNS : K.lookup A_SIGNS = some ⟨.type "tuple", odt_SIGNS, .seq #[.str "r" tt_SIGNS_0, .str "w" tt_SIGNS_1] nt_SIGNS, slt_SIGNS⟩)
    (g_FORMS : PySem.W.nsIn K mainGlobals "FORMS" = some (some (.ref A_FORMS)))
    (q_FORMS : K.lookup A_FORMS = some ⟨.type "dict", none, .dict es_FORMS nd_FORMS, #[]⟩)
    (kl_FORMS : PySem.W.KeysLit w.params es_FORMS.toList)
    (sm_FORMS : (A_FORMS == sysModules) = false)
    (v_FORMS_folder : PySem.W.nsIn K A_FORMS "folder" = some (some (.ref f__is_of_path)))
    (v_FORMS_file : PySem.W.nsIn K A_FORMS "file" = some (some (.ref f__is_of_path)))
    (v_FORMS_strike : PySem.W.nsIn K A_FORMS "strike" = some (some (.ref f__is_of_path)))
    (v_FORMS_read : PySem.W.nsIn K A_FORMS "read" = some (some (.ref f__is_of_path)))
    (v_FORMS_list : PySem.W.nsIn K A_FORMS "list" = some (some (.ref f__is_of_path)))
    (v_FORMS_look : PySem.W.nsIn K A_FORMS "look" = some (some (.ref f__is_of_path)))
    (v_FORMS_cut : PySem.W.nsIn K A_FORMS "cut" = some (some (.ref f__is_cut)))
    (v_FORMS_rights : PySem.W.nsIn K A_FORMS "rights" = some (some (.ref f__is_rights)))
    (g_TREE_FORMS : PySem.W.nsIn K mainGlobals "TREE_FORMS" = some (some (.ref A_TREE_FORMS)))
    (g_ACTIONS_shapes : PySem.W.nsIn K mainGlobals "ACTIONS_shapes" = some (some (.ref A_ACTIONS_shapes)))
    (q_ACTIONS_shapes : K.lookup A_ACTIONS_shapes = some ⟨.type "dict", none, .dict es_ACTIONS_shapes nd_ACTIONS_shapes, #[]⟩)
    (kl_ACTIONS_shapes : PySem.W.KeysLit w.params es_ACTIONS_shapes.toList)
    (sm_ACTIONS_shapes : (A_ACTIONS_shapes == sysModules) = false)
    (v_ACTIONS_shapes_folder : PySem.W.nsIn K A_ACTIONS_shapes "folder" = some (some (.ref f__make)))
    (v_ACTIONS_shapes_file : PySem.W.nsIn K A_ACTIONS_shapes "file" = some (some (.ref f__make)))
    (v_ACTIONS_shapes_strike : PySem.W.nsIn K A_ACTIONS_shapes "strike" = some (some (.ref f__strike)))
    (v_ACTIONS_shapes_cut : PySem.W.nsIn K A_ACTIONS_shapes "cut" = some (some (.ref f__cut)))
    (v_ACTIONS_shapes_rights : PySem.W.nsIn K A_ACTIONS_shapes "rights" = some (some (.ref f__rights)))
    (g_SHAPING : PySem.W.nsIn K mainGlobals "SHAPING" = some (some (.ref A_SHAPING)))
    (q_SHAPING : K.lookup A_SHAPING = some ⟨.type "dict", none, .dict es_SHAPING nd_SHAPING, #[]⟩)
    (kl_SHAPING : PySem.W.KeysLit w.params es_SHAPING.toList)
    (sm_SHAPING : (A_SHAPING == sysModules) = false)
    (v_SHAPING_folder : PySem.W.nsIn K A_SHAPING "folder" = some (some (.bool true)))
    (v_SHAPING_file : PySem.W.nsIn K A_SHAPING "file" = some (some (.bool true)))
    (v_SHAPING_strike : PySem.W.nsIn K A_SHAPING "strike" = some (some (.bool true)))
    (v_SHAPING_cut : PySem.W.nsIn K A_SHAPING "cut" = some (some (.bool true)))
    (v_SHAPING_rights : PySem.W.nsIn K A_SHAPING "rights" = some (some (.bool true)))
    (g_ROOMY : PySem.W.nsIn K mainGlobals "ROOMY" = some (some (.ref A_ROOMY))) :
    ∃ fd : FuncData, (∀ (s : Shared) (v : Value), BindsTo s fd ⟨[v], []⟩ [("_law_script", v)]) ∧ ∀ base : Heap, K.In base → base.Ns mainGlobals mg → FnG l.prog w K mg base CX0 13 fa fd ["_law_script"] (spLaw K) := by
  refine' @FB.also _ _ ?_ ?_ ?_; rotate_left
  · intro wit__; simp only [↓FB.viaW wit__ (by
      clear wit__
      have e := hfa.symm.trans (PySem.W.mg_of X G a_law)
      cases e
      let d_is_word : Df K mg "is_word" s_is_word ["thing"] := ⟨f_is_word, _, fun_mk (st := s_is_word) l_is_word c_is_word k_is_word, PySem.W.mg_of X G a_is_word, (fun_mk (st := s_is_word) l_is_word c_is_word k_is_word).binds (ps := ["thing"]) fun _ _ _ _ _ _ us hl => match us, hl with | [_], _ => rfl⟩
      let d_is_path : Df K mg "is_path" s_is_path ["thing"] := ⟨f_is_path, _, fun_mk (st := s_is_path) l_is_path c_is_path k_is_path, PySem.W.mg_of X G a_is_path, (fun_mk (st := s_is_path) l_is_path c_is_path k_is_path).binds (ps := ["thing"]) fun _ _ _ _ _ _ us hl => match us, hl with | [_], _ => rfl⟩
      let d_is_rights : Df K mg "is_rights" s_is_rights ["thing"] := ⟨f_is_rights, _, fun_mk (st := s_is_rights) l_is_rights c_is_rights k_is_rights, PySem.W.mg_of X G a_is_rights, (fun_mk (st := s_is_rights) l_is_rights c_is_rights k_is_rights).binds (ps := ["thing"]) fun _ _ _ _ _ _ us hl => match us, hl with | [_], _ => rfl⟩
      let d_is_groups : Df K mg "is_groups" s_is_groups ["thing"] := ⟨f_is_groups, _, fun_mk (st := s_is_groups) l_is_groups c_is_groups k_is_groups, PySem.W.mg_of X G a_is_groups, (fun_mk (st := s_is_groups) l_is_groups c_is_groups k_is_groups).binds (ps := ["thing"]) fun _ _ _ _ _ _ us hl => match us, hl with | [_], _ => rfl⟩
      let d__is_rights_text : Df K mg "_is_rights_text" s__is_rights_text ["thing"] := ⟨f__is_rights_text, _, fun_mk (st := s__is_rights_text) l__is_rights_text c__is_rights_text k__is_rights_text, PySem.W.mg_of X G a__is_rights_text, (fun_mk (st := s__is_rights_text) l__is_rights_text c__is_rights_text k__is_rights_text).binds (ps := ["thing"]) fun _ _ _ _ _ _ us hl => match us, hl with | [_], _ => rfl⟩
      let d__is_members : Df K mg "_is_members" s__is_members ["thing"] := ⟨f__is_members, _, fun_mk (st := s__is_members) l__is_members c__is_members k__is_members, PySem.W.mg_of X G a__is_members, (fun_mk (st := s__is_members) l__is_members c__is_members k__is_members).binds (ps := ["thing"]) fun _ _ _ _ _ _ us hl => match us, hl with | [_], _ => rfl⟩
      let d_may : Dk K mg "may" s_may := ⟨f_may, _, fun_mk (st := s_may) l_may c_may k_may, PySem.W.mg_of X G a_may⟩
      let d__users_of : Df K mg "_users_of" s__users_of ["groups", "group"] := ⟨f__users_of, _, fun_mk (st := s__users_of) l__users_of c__users_of k__users_of, PySem.W.mg_of X G a__users_of, (fun_mk (st := s__users_of) l__users_of c__users_of k__users_of).binds (ps := ["groups", "group"]) fun _ _ _ _ _ _ us hl => match us, hl with | [_, _], _ => rfl⟩
      let d_is_count : Df K mg "is_count" s_is_count ["thing"] := ⟨f_is_count, _, fun_mk (st := s_is_count) l_is_count c_is_count k_is_count, PySem.W.mg_of X G a_is_count, (fun_mk (st := s_is_count) l_is_count c_is_count k_is_count).binds (ps := ["thing"]) fun _ _ _ _ _ _ us hl => match us, hl with | [_], _ => rfl⟩
      let d_is_tree_deed : Df K mg "is_tree_deed" s_is_tree_deed ["thing"] := ⟨f_is_tree_deed, _, fun_mk (st := s_is_tree_deed) l_is_tree_deed c_is_tree_deed k_is_tree_deed, PySem.W.mg_of X G a_is_tree_deed, (fun_mk (st := s_is_tree_deed) l_is_tree_deed c_is_tree_deed k_is_tree_deed).binds (ps := ["thing"]) fun _ _ _ _ _ _ us hl => match us, hl with | [_], _ => rfl⟩
      let d__is_of_path : Df K mg "_is_of_path" s__is_of_path ["deed"] := ⟨f__is_of_path, _, fun_mk (st := s__is_of_path) l__is_of_path c__is_of_path k__is_of_path, PySem.W.mg_of X G a__is_of_path, (fun_mk (st := s__is_of_path) l__is_of_path c__is_of_path k__is_of_path).binds (ps := ["deed"]) fun _ _ _ _ _ _ us hl => match us, hl with | [_], _ => rfl⟩
      let d__is_cut : Df K mg "_is_cut" s__is_cut ["deed"] := ⟨f__is_cut, _, fun_mk (st := s__is_cut) l__is_cut c__is_cut k__is_cut, PySem.W.mg_of X G a__is_cut, (fun_mk (st := s__is_cut) l__is_cut c__is_cut k__is_cut).binds (ps := ["deed"]) fun _ _ _ _ _ _ us hl => match us, hl with | [_], _ => rfl⟩
      let d__is_rights : Df K mg "_is_rights" s__is_rights ["deed"] := ⟨f__is_rights, _, fun_mk (st := s__is_rights) l__is_rights c__is_rights k__is_rights, PySem.W.mg_of X G a__is_rights, (fun_mk (st := s__is_rights) l__is_rights c__is_rights k__is_rights).binds (ps := ["deed"]) fun _ _ _ _ _ _ us hl => match us, hl with | [_], _ => rfl⟩
      let d_give_rights : Df K mg "give_rights" s_give_rights ["node", "rights"] := ⟨f_give_rights, _, fun_mk (st := s_give_rights) l_give_rights c_give_rights k_give_rights, PySem.W.mg_of X G a_give_rights, (fun_mk (st := s_give_rights) l_give_rights c_give_rights k_give_rights).binds (ps := ["node", "rights"]) fun _ _ _ _ _ _ us hl => match us, hl with | [_, _], _ => rfl⟩
      let d_lets : Df K mg "lets" s_lets ["members", "user", "sign", "node"] := ⟨f_lets, _, fun_mk (st := s_lets) l_lets c_lets k_lets, PySem.W.mg_of X G a_lets, (fun_mk (st := s_lets) l_lets c_lets k_lets).binds (ps := ["members", "user", "sign", "node"]) fun _ _ _ _ _ _ us hl => match us, hl with | [_, _, _, _], _ => rfl⟩
      let d_gone_along : Df K mg "gone_along" s_gone_along ["members", "top", "path", "user"] := ⟨f_gone_along, _, fun_mk (st := s_gone_along) l_gone_along c_gone_along k_gone_along, PySem.W.mg_of X G a_gone_along, (fun_mk (st := s_gone_along) l_gone_along c_gone_along k_gone_along).binds (ps := ["members", "top", "path", "user"]) fun _ _ _ _ _ _ us hl => match us, hl with | [_, _, _, _], _ => rfl⟩
      let d_come_to : Df K mg "come_to" s_come_to ["core", "user", "path"] := ⟨f_come_to, _, fun_mk (st := s_come_to) l_come_to c_come_to k_come_to, PySem.W.mg_of X G a_come_to, (fun_mk (st := s_come_to) l_come_to c_come_to k_come_to).binds (ps := ["core", "user", "path"]) fun _ _ _ _ _ _ us hl => match us, hl with | [_, _, _], _ => rfl⟩
      let d_file_at : Df K mg "file_at" s_file_at ["core", "user", "path", "sign"] := ⟨f_file_at, _, fun_mk (st := s_file_at) l_file_at c_file_at k_file_at, PySem.W.mg_of X G a_file_at, (fun_mk (st := s_file_at) l_file_at c_file_at k_file_at).binds (ps := ["core", "user", "path", "sign"]) fun _ _ _ _ _ _ us hl => match us, hl with | [_, _, _, _], _ => rfl⟩
      let d_owns : Df K mg "owns" s_owns ["user", "node"] := ⟨f_owns, _, fun_mk (st := s_owns) l_owns c_owns k_owns, PySem.W.mg_of X G a_owns, (fun_mk (st := s_owns) l_owns c_owns k_owns).binds (ps := ["user", "node"]) fun _ _ _ _ _ _ us hl => match us, hl with | [_, _], _ => rfl⟩
      let d_has_room : Df K mg "has_room" s_has_room ["core"] := ⟨f_has_room, _, fun_mk (st := s_has_room) l_has_room c_has_room k_has_room, PySem.W.mg_of X G a_has_room, (fun_mk (st := s_has_room) l_has_room c_has_room k_has_room).binds (ps := ["core"]) fun _ _ _ _ _ _ us hl => match us, hl with | [_], _ => rfl⟩
      let d_used : Df K mg "used" s_used ["folder"] := ⟨f_used, _, fun_mk (st := s_used) l_used c_used k_used, PySem.W.mg_of X G a_used, (fun_mk (st := s_used) l_used c_used k_used).binds (ps := ["folder"]) fun _ _ _ _ _ _ us hl => match us, hl with | [_], _ => rfl⟩
      let d_held : Df K mg "held" s_held ["core", "user"] := ⟨f_held, _, fun_mk (st := s_held) l_held c_held k_held, PySem.W.mg_of X G a_held, (fun_mk (st := s_held) l_held c_held k_held).binds (ps := ["core", "user"]) fun _ _ _ _ _ _ us hl => match us, hl with | [_, _], _ => rfl⟩
      let d__strained_folders : Df K mg "_strained_folders" s__strained_folders ["core"] := ⟨f__strained_folders, _, fun_mk (st := s__strained_folders) l__strained_folders c__strained_folders k__strained_folders, PySem.W.mg_of X G a__strained_folders, (fun_mk (st := s__strained_folders) l__strained_folders c__strained_folders k__strained_folders).binds (ps := ["core"]) fun _ _ _ _ _ _ us hl => match us, hl with | [_], _ => rfl⟩
      let d__strained_users : Df K mg "_strained_users" s__strained_users ["core"] := ⟨f__strained_users, _, fun_mk (st := s__strained_users) l__strained_users c__strained_users k__strained_users, PySem.W.mg_of X G a__strained_users, (fun_mk (st := s__strained_users) l__strained_users c__strained_users k__strained_users).binds (ps := ["core"]) fun _ _ _ _ _ _ us hl => match us, hl with | [_], _ => rfl⟩
      let d_shortened : Df K mg "shortened" s_shortened ["parts", "many"] := ⟨f_shortened, _, fun_mk (st := s_shortened) l_shortened c_shortened k_shortened, PySem.W.mg_of X G a_shortened, (fun_mk (st := s_shortened) l_shortened c_shortened k_shortened).binds (ps := ["parts", "many"]) fun _ _ _ _ _ _ us hl => match us, hl with | [_, _], _ => rfl⟩
      let d__first_cells : Df K mg "_first_cells" s__first_cells ["parts", "many"] := ⟨f__first_cells, _, fun_mk (st := s__first_cells) l__first_cells c__first_cells k__first_cells, PySem.W.mg_of X G a__first_cells, (fun_mk (st := s__first_cells) l__first_cells c__first_cells k__first_cells).binds (ps := ["parts", "many"]) fun _ _ _ _ _ _ us hl => match us, hl with | [_, _], _ => rfl⟩
      let d__joined : Df K mg "_joined" s__joined ["parts"] := ⟨f__joined, _, fun_mk (st := s__joined) l__joined c__joined k__joined, PySem.W.mg_of X G a__joined, (fun_mk (st := s__joined) l__joined c__joined k__joined).binds (ps := ["parts"]) fun _ _ _ _ _ _ us hl => match us, hl with | [_], _ => rfl⟩
      let d__goes_on : Df K mg "_goes_on" s__goes_on ["part", "piece", "first"] := ⟨f__goes_on, _, fun_mk (st := s__goes_on) l__goes_on c__goes_on k__goes_on, PySem.W.mg_of X G a__goes_on, (fun_mk (st := s__goes_on) l__goes_on c__goes_on k__goes_on).binds (ps := ["part", "piece", "first"]) fun _ _ _ _ _ _ us hl => match us, hl with | [_, _, _], _ => rfl⟩
      let d_gathered : Df K mg "gathered" s_gathered ["parts", "pieces"] := ⟨f_gathered, _, fun_mk (st := s_gathered) l_gathered c_gathered k_gathered, PySem.W.mg_of X G a_gathered, (fun_mk (st := s_gathered) l_gathered c_gathered k_gathered).binds (ps := ["parts", "pieces"]) fun _ _ _ _ _ _ us hl => match us, hl with | [_, _], _ => rfl⟩
      let d_filled : Df K mg "filled" s_filled ["word", "raw", "inner"] := ⟨f_filled, _, fun_mk (st := s_filled) l_filled c_filled k_filled, PySem.W.mg_of X G a_filled, (fun_mk (st := s_filled) l_filled c_filled k_filled).binds (ps := ["word", "raw", "inner"]) fun _ _ _ _ _ _ us hl => match us, hl with | [_, _, _], _ => rfl⟩
      let d_lapse : Df K mg "lapse" s_lapse ["core"] := ⟨f_lapse, _, fun_mk (st := s_lapse) l_lapse c_lapse k_lapse, PySem.W.mg_of X G a_lapse, (fun_mk (st := s_lapse) l_lapse c_lapse k_lapse).binds (ps := ["core"]) fun _ _ _ _ _ _ us hl => match us, hl with | [_], _ => rfl⟩
      let d_room_deed : Df K mg "room_deed" s_room_deed ["core", "user", "deed"] := ⟨f_room_deed, _, fun_mk (st := s_room_deed) l_room_deed c_room_deed k_room_deed, PySem.W.mg_of X G a_room_deed, (fun_mk (st := s_room_deed) l_room_deed c_room_deed k_room_deed).binds (ps := ["core", "user", "deed"]) fun _ _ _ _ _ _ us hl => match us, hl with | [_, _, _], _ => rfl⟩
      let d_telling_deed : Df K mg "telling_deed" s_telling_deed ["core", "user", "deed"] := ⟨f_telling_deed, _, fun_mk (st := s_telling_deed) l_telling_deed c_telling_deed k_telling_deed, PySem.W.mg_of X G a_telling_deed, (fun_mk (st := s_telling_deed) l_telling_deed c_telling_deed k_telling_deed).binds (ps := ["core", "user", "deed"]) fun _ _ _ _ _ _ us hl => match us, hl with | [_, _, _], _ => rfl⟩
      let d_shape_deed : Df K mg "shape_deed" s_shape_deed ["core", "user", "deed"] := ⟨f_shape_deed, _, fun_mk (st := s_shape_deed) l_shape_deed c_shape_deed k_shape_deed, PySem.W.mg_of X G a_shape_deed, (fun_mk (st := s_shape_deed) l_shape_deed c_shape_deed k_shape_deed).binds (ps := ["core", "user", "deed"]) fun _ _ _ _ _ _ us hl => match us, hl with | [_, _, _], _ => rfl⟩
      let d__folder_of : Df K mg "_folder_of" s__folder_of ["core", "user", "path"] := ⟨f__folder_of, _, fun_mk (st := s__folder_of) l__folder_of c__folder_of k__folder_of, PySem.W.mg_of X G a__folder_of, (fun_mk (st := s__folder_of) l__folder_of c__folder_of k__folder_of).binds (ps := ["core", "user", "path"]) fun _ _ _ _ _ _ us hl => match us, hl with | [_, _, _], _ => rfl⟩
      let d__new_place : Df K mg "_new_place" s__new_place ["core", "user", "path"] := ⟨f__new_place, _, fun_mk (st := s__new_place) l__new_place c__new_place k__new_place, PySem.W.mg_of X G a__new_place, (fun_mk (st := s__new_place) l__new_place c__new_place k__new_place).binds (ps := ["core", "user", "path"]) fun _ _ _ _ _ _ us hl => match us, hl with | [_, _, _], _ => rfl⟩
      let d__old_place : Df K mg "_old_place" s__old_place ["core", "user", "path"] := ⟨f__old_place, _, fun_mk (st := s__old_place) l__old_place c__old_place k__old_place, PySem.W.mg_of X G a__old_place, (fun_mk (st := s__old_place) l__old_place c__old_place k__old_place).binds (ps := ["core", "user", "path"]) fun _ _ _ _ _ _ us hl => match us, hl with | [_, _, _], _ => rfl⟩
      let d__make : Df K mg "_make" s__make ["core", "user", "deed"] := ⟨f__make, _, fun_mk (st := s__make) l__make c__make k__make, PySem.W.mg_of X G a__make, (fun_mk (st := s__make) l__make c__make k__make).binds (ps := ["core", "user", "deed"]) fun _ _ _ _ _ _ us hl => match us, hl with | [_, _, _], _ => rfl⟩
      let d__strike : Df K mg "_strike" s__strike ["core", "user", "deed"] := ⟨f__strike, _, fun_mk (st := s__strike) l__strike c__strike k__strike, PySem.W.mg_of X G a__strike, (fun_mk (st := s__strike) l__strike c__strike k__strike).binds (ps := ["core", "user", "deed"]) fun _ _ _ _ _ _ us hl => match us, hl with | [_, _, _], _ => rfl⟩
      let d__cut : Df K mg "_cut" s__cut ["core", "user", "deed"] := ⟨f__cut, _, fun_mk (st := s__cut) l__cut c__cut k__cut, PySem.W.mg_of X G a__cut, (fun_mk (st := s__cut) l__cut c__cut k__cut).binds (ps := ["core", "user", "deed"]) fun _ _ _ _ _ _ us hl => match us, hl with | [_, _, _], _ => rfl⟩
      let d__rights : Df K mg "_rights" s__rights ["core", "user", "deed"] := ⟨f__rights, _, fun_mk (st := s__rights) l__rights c__rights k__rights, PySem.W.mg_of X G a__rights, (fun_mk (st := s__rights) l__rights c__rights k__rights).binds (ps := ["core", "user", "deed"]) fun _ _ _ _ _ _ us hl => match us, hl with | [_, _, _], _ => rfl⟩
      let d_told_of_path : Df K mg "told_of_path" s_told_of_path ["core", "user", "deed"] := ⟨f_told_of_path, _, fun_mk (st := s_told_of_path) l_told_of_path c_told_of_path k_told_of_path, PySem.W.mg_of X G a_told_of_path, (fun_mk (st := s_told_of_path) l_told_of_path c_told_of_path k_told_of_path).binds (ps := ["core", "user", "deed"]) fun _ _ _ _ _ _ us hl => match us, hl with | [_, _, _], _ => rfl⟩
      let d__looked : Df K mg "_looked" s__looked ["node"] := ⟨f__looked, _, fun_mk (st := s__looked) l__looked c__looked k__looked, PySem.W.mg_of X G a__looked, (fun_mk (st := s__looked) l__looked c__looked k__looked).binds (ps := ["node"]) fun _ _ _ _ _ _ us hl => match us, hl with | [_], _ => rfl⟩
      let d__told_of : Df K mg "_told_of" s__told_of ["core", "user", "node", "word"] := ⟨f__told_of, _, fun_mk (st := s__told_of) l__told_of c__told_of k__told_of, PySem.W.mg_of X G a__told_of, (fun_mk (st := s__told_of) l__told_of c__told_of k__told_of).binds (ps := ["core", "user", "node", "word"]) fun _ _ _ _ _ _ us hl => match us, hl with | [_, _, _, _], _ => rfl⟩
      let d_wanted_parts : Df K mg "wanted_parts" s_wanted_parts ["word", "raw"] := ⟨f_wanted_parts, _, fun_mk (st := s_wanted_parts) l_wanted_parts c_wanted_parts k_wanted_parts, PySem.W.mg_of X G a_wanted_parts, (fun_mk (st := s_wanted_parts) l_wanted_parts c_wanted_parts k_wanted_parts).binds (ps := ["word", "raw"]) fun _ _ _ _ _ _ us hl => match us, hl with | [_, _], _ => rfl⟩
      let d__law_purse : Df K mg "_law_purse" s__law_purse ["_law_script", "_law_k"] := ⟨f__law_purse, _, fun_mk (st := s__law_purse) l__law_purse c__law_purse k__law_purse, PySem.W.mg_of X G a__law_purse, (fun_mk (st := s__law_purse) l__law_purse c__law_purse k__law_purse).binds (ps := ["_law_script", "_law_k"]) fun _ _ _ _ _ _ us hl => match us, hl with | [_, _], _ => rfl⟩
      let d__law_take : Df K mg "_law_take" s__law_take ["_law_purse_here", "_law_many"] := ⟨f__law_take, _, fun_mk (st := s__law_take) l__law_take c__law_take k__law_take, PySem.W.mg_of X G a__law_take, (fun_mk (st := s__law_take) l__law_take c__law_take k__law_take).binds (ps := ["_law_purse_here", "_law_many"]) fun _ _ _ _ _ _ us hl => match us, hl with | [_, _], _ => rfl⟩
      let d__law_people : Df K mg "_law_people" s__law_people ["_law_purse_here"] := ⟨f__law_people, _, fun_mk (st := s__law_people) l__law_people c__law_people k__law_people, PySem.W.mg_of X G a__law_people, (fun_mk (st := s__law_people) l__law_people c__law_people k__law_people).binds (ps := ["_law_purse_here"]) fun _ _ _ _ _ _ us hl => match us, hl with | [_], _ => rfl⟩
      let d__law_clubs : Df K mg "_law_clubs" s__law_clubs ["_law_purse_here", "_law_people_here"] := ⟨f__law_clubs, _, fun_mk (st := s__law_clubs) l__law_clubs c__law_clubs k__law_clubs, PySem.W.mg_of X G a__law_clubs, (fun_mk (st := s__law_clubs) l__law_clubs c__law_clubs k__law_clubs).binds (ps := ["_law_purse_here", "_law_people_here"]) fun _ _ _ _ _ _ us hl => match us, hl with | [_, _], _ => rfl⟩
      let d__law_grants : Df K mg "_law_grants" s__law_grants ["_law_purse_here"] := ⟨f__law_grants, _, fun_mk (st := s__law_grants) l__law_grants c__law_grants k__law_grants, PySem.W.mg_of X G a__law_grants, (fun_mk (st := s__law_grants) l__law_grants c__law_grants k__law_grants).binds (ps := ["_law_purse_here"]) fun _ _ _ _ _ _ us hl => match us, hl with | [_], _ => rfl⟩
      let d__law_let : Df K mg "_law_let" s__law_let ["_law_folk", "_law_person", "_law_mark", "_law_lord", "_law_clan", "_law_grants_here"] := ⟨f__law_let, _, fun_mk (st := s__law_let) l__law_let c__law_let k__law_let, PySem.W.mg_of X G a__law_let, (fun_mk (st := s__law_let) l__law_let c__law_let k__law_let).binds (ps := ["_law_folk", "_law_person", "_law_mark", "_law_lord", "_law_clan", "_law_grants_here"]) fun _ _ _ _ _ _ us hl => match us, hl with | [_, _, _, _, _, _], _ => rfl⟩
      let d__law_made : Df K mg "_law_made" s__law_made ["_law_folk", "_law_things"] := ⟨f__law_made, _, fun_mk (st := s__law_made) l__law_made c__law_made k__law_made, PySem.W.mg_of X G a__law_made, (fun_mk (st := s__law_made) l__law_made c__law_made k__law_made).binds (ps := ["_law_folk", "_law_things"]) fun _ _ _ _ _ _ us hl => match us, hl with | [_, _], _ => rfl⟩
      let d__law_due : Df K mg "_law_due" s__law_due ["_law_let_here"] := ⟨f__law_due, _, fun_mk (st := s__law_due) l__law_due c__law_due k__law_due, PySem.W.mg_of X G a__law_due, (fun_mk (st := s__law_due) l__law_due c__law_due k__law_due).binds (ps := ["_law_let_here"]) fun _ _ _ _ _ _ us hl => match us, hl with | [_], _ => rfl⟩
      let d__law_one_right : Df K mg "_law_one_right" s__law_one_right ["_law_tree", "_law_folk", "_law_person", "_law_things"] := ⟨f__law_one_right, _, fun_mk (st := s__law_one_right) l__law_one_right c__law_one_right k__law_one_right, PySem.W.mg_of X G a__law_one_right, (fun_mk (st := s__law_one_right) l__law_one_right c__law_one_right k__law_one_right).binds (ps := ["_law_tree", "_law_folk", "_law_person", "_law_things"]) fun _ _ _ _ _ _ us hl => match us, hl with | [_, _, _, _], _ => rfl⟩
      let d_law : Df K mg "law" s_law ["_law_script"] := ⟨fa, _, fun_mk (st := s_law) l_law c_law k_law, PySem.W.mg_of X G a_law, (fun_mk (st := s_law) l_law c_law k_law).binds (ps := ["_law_script"]) fun _ _ _ _ _ _ us hl => match us, hl with | [_], _ => rfl⟩
      let d_Folder : Di K mg C_Folder "Folder" s_Folder_init ["self", "owner", "group", "rights"] := ⟨f_Folder_init, _, fun_mk (st := s_Folder_init) l_Folder_init c_Folder_init k_Folder_init, ⟨m1_Folder, i_Folder, n_Folder, kc_Folder⟩, PySem.W.mg_of X G a_Folder, (fun_mk (st := s_Folder_init) l_Folder_init c_Folder_init k_Folder_init).binds (ps := ["self", "owner", "group", "rights"]) fun _ _ _ _ _ _ us hl => match us, hl with | [_, _, _, _], _ => rfl⟩
      let d_File : Di K mg C_File "File" s_File_init ["self", "owner", "group", "rights"] := ⟨f_File_init, _, fun_mk (st := s_File_init) l_File_init c_File_init k_File_init, ⟨m1_File, i_File, n_File, kc_File⟩, PySem.W.mg_of X G a_File, (fun_mk (st := s_File_init) l_File_init c_File_init k_File_init).binds (ps := ["self", "owner", "group", "rights"]) fun _ _ _ _ _ _ us hl => match us, hl with | [_, _, _, _], _ => rfl⟩
      let d_Core : Di K mg C_Core "Core" s_Core_init ["self", "groups"] := ⟨f_Core_init, _, fun_mk (st := s_Core_init) l_Core_init c_Core_init k_Core_init, ⟨m1_Core, i_Core, n_Core, kc_Core⟩, PySem.W.mg_of X G a_Core, (fun_mk (st := s_Core_init) l_Core_init c_Core_init k_Core_init).binds (ps := ["self", "groups"]) fun _ _ _ _ _ _ us hl => match us, hl with | [_, _], _ => rfl⟩
      let d_Tree : Did K mg C_Tree "Tree" s_Tree_init [V.ref E_dfl] := ⟨f_Tree_init, _, ⟨⟨_, _, _, _, _, _, _, _, _, _, rfl, l_Tree_init, c_Tree_init, .inr ⟨by simp, T_dfl, _, [.ref E_dfl], _, rfl, dfl_Tree, rfl, .cons rfl .nil⟩, .inl rfl⟩, k_Tree_init⟩, ⟨m1_Tree, i_Tree, n_Tree, kc_Tree⟩, PySem.W.mg_of X G a_Tree⟩
      let d_Grove_init : Db K mg C_Grove "Grove" "__init__" "Grove.__init__" s_Grove_init ["self", "groups"] := ⟨f_Grove_init, _, fun_mk (st := s_Grove_init) l_Grove_init c_Grove_init k_Grove_init, PySem.W.mg_of X G a_Grove, ⟨r1_Grove, r2_Grove⟩, fc_Grove, k_Grove_init, (fun_mk (st := s_Grove_init) l_Grove_init c_Grove_init k_Grove_init).binds (ps := ["self", "groups"]) fun _ _ _ _ _ _ us hl => match us, hl with | [_, _], _ => rfl⟩
      let d_Core_act : Dm K C_Core "act" "Core.act" s_Core_act ["self", "when", "user", "deed"] := ⟨f_Core_act, _, fun_mk (st := s_Core_act) l_Core_act c_Core_act k_Core_act, ⟨i_Core_act, n_Core_act, k_Core_act⟩, (fun_mk (st := s_Core_act) l_Core_act c_Core_act k_Core_act).binds (ps := ["self", "when", "user", "deed"]) fun _ _ _ _ _ _ us hl => match us, hl with | [_, _, _, _], _ => rfl⟩
      let d_Grove_reply : Dm K C_Tree "reply" "Grove.reply" s_Grove_reply ["self", "when", "user", "deed"] := ⟨f_Grove_reply, _, fun_mk (st := s_Grove_reply) l_Grove_reply c_Grove_reply k_Grove_reply, ⟨i_Grove_reply, n_Grove_reply, k_Grove_reply⟩, (fun_mk (st := s_Grove_reply) l_Grove_reply c_Grove_reply k_Grove_reply).binds (ps := ["self", "when", "user", "deed"]) fun _ _ _ _ _ _ us hl => match us, hl with | [_, _, _, _], _ => rfl⟩
      let d_Grove_with_cells : Dm K C_Tree "with_cells" "Grove.with_cells" s_Grove_with_cells ["self", "raw"] := ⟨f_Grove_with_cells, _, fun_mk (st := s_Grove_with_cells) l_Grove_with_cells c_Grove_with_cells k_Grove_with_cells, ⟨i_Grove_with_cells, n_Grove_with_cells, k_Grove_with_cells⟩, (fun_mk (st := s_Grove_with_cells) l_Grove_with_cells c_Grove_with_cells k_Grove_with_cells).binds (ps := ["self", "raw"]) fun _ _ _ _ _ _ us hl => match us, hl with | [_, _], _ => rfl⟩
      let d_Grove_put : Dm K C_Tree "_put" "Grove._put" s_Grove_put ["self", "when", "user", "deed"] := ⟨f_Grove_put, _, fun_mk (st := s_Grove_put) l_Grove_put c_Grove_put k_Grove_put, ⟨i_Grove_put, n_Grove_put, k_Grove_put⟩, (fun_mk (st := s_Grove_put) l_Grove_put c_Grove_put k_Grove_put).binds (ps := ["self", "when", "user", "deed"]) fun _ _ _ _ _ _ us hl => match us, hl with | [_, _, _, _], _ => rfl⟩
      let d_Tree_do : Dm K C_Tree "do" "Tree.do" s_Tree_do ["self", "tick", "user", "deed"] := ⟨f_Tree_do, _, fun_mk (st := s_Tree_do) l_Tree_do c_Tree_do k_Tree_do, ⟨i_Tree_do, n_Tree_do, k_Tree_do⟩, (fun_mk (st := s_Tree_do) l_Tree_do c_Tree_do k_Tree_do).binds (ps := ["self", "tick", "user", "deed"]) fun _ _ _ _ _ _ us hl => match us, hl with | [_, _, _, _], _ => rfl⟩
      have hN : NodeK K C_Folder C_File := by
        refine ⟨⟨p1_Folder, p2_Folder, p3_Folder, p4_Folder⟩, ⟨p1_File, p2_File, p3_File, p4_File⟩, ?_, ?_, ne_of e1⟩
        · exact fun f hf => by
            simp only [List.mem_cons, List.not_mem_nil, or_false] at hf
            rcases hf with rfl | rfl | rfl | rfl | rfl | rfl | rfl
            · exact na_Folder_kind
            · exact na_Folder_owner
            · exact na_Folder_group
            · exact na_Folder_rights
            · exact na_Folder_is_open
            · exact na_Folder_names
            · exact na_Folder_limit
        · exact fun f hf => by
            simp only [List.mem_cons, List.not_mem_nil, or_false] at hf
            rcases hf with rfl | rfl | rfl | rfl | rfl | rfl | rfl | rfl | rfl | rfl
            · exact na_File_kind
            · exact na_File_owner
            · exact na_File_group
            · exact na_File_rights
            · exact na_File_is_open
            · exact na_File_names
            · exact na_File_parts
            · exact na_File_size
            · exact na_File_promised
            · exact na_File_links
      have hCO : CoreK K C_Core := by
        refine ⟨⟨p1_Core, p2_Core, p3_Core, p4_Core⟩, ?_⟩
        exact fun f hf => by
          simp only [coF, List.mem_cons, List.not_mem_nil, or_false] at hf
          rcases hf with rfl | rfl | rfl | rfl | rfl | rfl | rfl | rfl | rfl | rfl | rfl | rfl
          · exact na_Core_groups
          · exact na_Core_members
          · exact na_Core_clock
          · exact na_Core_top
          · exact na_Core_promises
          · exact na_Core_made
          · exact na_Core_limited
          · exact na_Core_shares
          · exact na_Core_is_watched
          · exact na_Core_strains
          · exact na_Core_snaps
          · exact na_Core_snapped
      have hKD : KindK K C_Folder C_File := by
        refine ⟨fun C hC => ?_, y1, y2, kit_own (ne_of2 e1) h_File t_File y3, kit_same, kit_own rfl h_File t_File y4⟩
        rcases hC with rfl | rfl
        · exact ⟨x1_Folder, x2_Folder, kit_ty (by decide +kernel) x3_Folder⟩
        · exact ⟨x1_File, x2_File, kit_ty (by decide +kernel) x3_File⟩
      have hT : ∀ f ∈ (["core", "pieces"] : List Str), NoAttr K C_Tree f := fun f hf => by
        simp only [List.mem_cons, List.not_mem_nil, or_false] at hf
        rcases hf with rfl | rfl
        · exact na_Tree_core
        · exact na_Tree_pieces
      have T : Tx l.prog K mg ⟨C_Folder, C_File, C_Core, C_Grove, C_Tree, C_Promise⟩ ⟨A_DONE, A_NO_RIGHT, A_NO_ROOM, A_NEW_RIGHTS, A_PATH_WORDS, A_GLANCED, A_RIGHTS_TEXTS, A_SIGNS, A_FORMS, A_TREE_FORMS, A_ACTIONS_shapes, A_SHAPING, A_ROOMY, t_ROOT, t_LETTERS, t_MOST_LETTERS, t_MOST_NAMES, t_MOST_GROUPS⟩ := ⟨PySem.W.mg_none_of X G z_len, PySem.W.mg_none_of X G z_all, PySem.W.mg_none_of X G z_any, PySem.W.mg_none_of X G z_isinstance, PySem.W.mg_none_of X G z_repr, PySem.W.mg_none_of X G z_str, PySem.W.mg_none_of X G z_tuple, PySem.W.mg_none_of X G z_bool, PySem.W.mg_none_of X G z_int, PySem.W.mg_none_of X G z_list, PySem.W.mg_none_of X G z_max, PySem.W.mg_none_of X G z_min, PySem.W.mg_none_of X G z_range, PySem.W.mg_none_of X G z_sum, PySem.W.mg_none_of X G z_dict, PySem.W.mg_none_of X G z_sorted, PySem.W.mg_none_of X G z_set, PySem.W.mg_none_of X G z_zip, hN, hKD, hCO, ne_of e2, ne_of e3, hT, PySem.W.mg_of X G a_Folder, ⟨p1_Folder, p2_Folder, p3_Folder, p4_Folder⟩, PySem.W.mg_of X G a_File, ⟨p1_File, p2_File, p3_File, p4_File⟩, PySem.W.mg_of X G a_Core, ⟨p1_Core, p2_Core, p3_Core, p4_Core⟩, PySem.W.mg_of X G a_Grove, ⟨p1_Grove, p2_Grove, p3_Grove, p4_Grove⟩, PySem.W.mg_of X G a_Tree, ⟨p1_Tree, p2_Tree, p3_Tree, p4_Tree⟩, PySem.W.mg_of X G a_Promise, ⟨p1_Promise, p2_Promise, p3_Promise, p4_Promise⟩, PySem.W.mg_of X G g_ROOT, PySem.W.mg_of X G g_LETTERS, PySem.W.mg_of X G g_MOST_LETTERS, PySem.W.mg_of X G g_MOST_NAMES, PySem.W.mg_of X G g_MOST_GROUPS, PySem.W.mg_of X G g_DONE, tup_c1 q_DONE, PySem.W.mg_of X G g_NO_RIGHT, tup_c2 q_NO_RIGHT, PySem.W.mg_of X G g_NO_ROOM, tup_c2 q_NO_ROOM, PySem.W.mg_of X G g_NEW_RIGHTS, tup_c3 q_NEW_RIGHTS, PySem.W.mg_of X G g_PATH_WORDS, tup_c3 q_PATH_WORDS, PySem.W.mg_of X G g_GLANCED, tup_c3 q_GLANCED, PySem.W.mg_of X G g_RIGHTS_TEXTS, tup_c4 q_RIGHTS_TEXTS, PySem.W.mg_of X G g_SIGNS, tup_c2 q_SIGNS, PySem.W.mg_of X G g_FORMS, PySem.W.mg_of X G g_TREE_FORMS, PySem.W.mg_of X G g_ACTIONS_shapes, PySem.W.mg_of X G g_SHAPING, PySem.W.mg_of X G g_ROOMY⟩
      refine ⟨d_law.fd, fun s v => .of_eq rfl, fun base _ _ => ?_⟩
      have G_lapse : FnOk l.prog w K mg base CX0 1 d_lapse.f d_lapse.fd ["core"] spNo := fn_no
      have G_room_deed : FnOk l.prog w K mg base CX0 1 d_room_deed.f d_room_deed.fd ["core", "user", "deed"] spNo := fn_no
      have G_telling_deed : FnOk l.prog w K mg base CX0 1 d_telling_deed.f d_telling_deed.fd ["core", "user", "deed"] spNo := fn_no
      have G_filled : FnOk l.prog w K mg base CX0 1 d_filled.f d_filled.fd ["word", "raw", "inner"] spNo := fn_no
      have G_Grove_put : FnOk l.prog w K mg base CX0 1 d_Grove_put.f d_Grove_put.fd ["self", "when", "user", "deed"] spNo := fn_no
      have G_used : FnOk l.prog w K mg base CX0 1 d_used.f d_used.fd ["folder"] spNo := fn_no
      have G_held : FnOk l.prog w K mg base CX0 1 d_held.f d_held.fd ["core", "user"] spNo := fn_no
      have G__strained_folders : FnOk l.prog w K mg base CX0 1 d__strained_folders.f d__strained_folders.fd ["core"] spNo := fn_no
      have G__strained_users : FnOk l.prog w K mg base CX0 1 d__strained_users.f d__strained_users.fd ["core"] spNo := fn_no
      have kb_Tree : KBn K d_Tree.fd ["self", "groups"] 1 ["groups"] gT gTV := d_Tree.kb (by simp) (fun _ _ _ _ _ _ _ us ws its h1 h2 h3 => match us, ws, its, h1, h2, h3 with | [_], [_], [_], _, _, _ => ⟨_, rfl, rfl⟩) fun r r2 => r.append r2
      have kb1 : KBn K d_may.fd mayPs 3 ["owner", "group", "rights"] g1 gV1 := d_may.kb (fun _ _ _ _ _ _ us ws h1 h2 => match us, ws, h1, h2 with | [_, _, _], [_, _, _], _, _ => rfl) fun r r2 => r.append r2
      have G_lets := ok_lets (P := l.prog) (w := w) (base := base) T d_lets
      have G_come_to := ok_come (P := l.prog) (w := w) (base := base) T d_come_to d_lets G_lets
      have G_owns := ok_owns (P := l.prog) (w := w) (base := base) T d_owns
      have G__folder_of := ok__folder_of (P := l.prog) (w := w) (base := base) T d__folder_of d_come_to d_lets G_come_to G_lets
      have G__new_place := ok__new_place (P := l.prog) (w := w) (base := base) T d__new_place d__folder_of G__folder_of
      have G_Folder := ok_Folder_init (P := l.prog) (w := w) (base := base) T d_Folder
      have G_File := ok_File_init (P := l.prog) (w := w) (base := base) T d_File
      have G__make := ok__make (P := l.prog) (w := w) (base := base) T d__make d__new_place d_Folder d_File G__new_place G_Folder G_File
      have G_has_room := ok_has_room (P := l.prog) (w := w) (base := base) T d_has_room d_used d_held d__strained_folders d__strained_users G_used G_held G__strained_folders G__strained_users
      have G_give_rights := ok_give (P := l.prog) (w := w) (base := base) T d_give_rights
      have G__rights := ok__rights (P := l.prog) (w := w) (base := base) T d__rights d_come_to d_owns d_has_room d_give_rights G_come_to G_owns G_has_room G_give_rights
      have G__looked := ok__looked (P := l.prog) (w := w) (base := base) T d__looked
      have G__told_of := ok__told_of (P := l.prog) (w := w) (base := base) T d__told_of d_lets G_lets
      have G_is_word := ok_is_word (P := l.prog) (w := w) (base := base) T d_is_word
      have G_is_path := ok_is_path (P := l.prog) (w := w) (base := base) T d_is_path
      have G__is_rights_text := ok_rights_text (P := l.prog) (w := w) (base := base) T d__is_rights_text
      have G_is_rights := ok_is_rights (P := l.prog) (w := w) (base := base) T d_is_rights d__is_rights_text G__is_rights_text
      have G__is_members := ok_is_members (P := l.prog) (w := w) (base := base) T d__is_members
      have G_is_groups := ok_is_groups (P := l.prog) (w := w) (base := base) T d_is_groups d_is_word d__is_members G_is_word G__is_members
      have G__is_of_path := ok__is_of_path (P := l.prog) (w := w) (base := base) T d__is_of_path d_is_path G_is_path
      have G__is_rights := ok__is_rightsD (P := l.prog) (w := w) (base := base) T d__is_rights d_is_path d_is_word d_is_rights G_is_path G_is_word G_is_rights
      have G_wanted_parts := ok_wanted (P := l.prog) (w := w) (base := base) T d_wanted_parts
      have G_gath0 := ok_gath0 (P := l.prog) (w := w) (base := base) T d_gathered
      have G_Grove_with_cells := ok_with_cells T d_Grove_with_cells d_gathered G_gath0
      have G_Core := ok_Core_init (P := l.prog) (w := w) (base := base) T d_Core d_Folder G_Folder
      have G_Grove_init := ok_Grove_init (P := l.prog) (w := w) (base := base) T d_Grove_init d_Core G_Core
      have G_Tree := ok_Tree_init (P := l.prog) (w := w) (base := base) T d_Tree d_Grove_init d_is_groups G_is_groups G_Grove_init
      have G__first_cells := ok_first (P := l.prog) (w := w) (base := base) T d__first_cells
      have G__goes_on := ok_goes_on (P := l.prog) (w := w) (base := base) T d__goes_on
      have G__joined := ok_joined (P := l.prog) (w := w) (base := base) T d__joined d__goes_on G__goes_on
      have G_shortened := ok_shortened (P := l.prog) (w := w) (base := base) T d_shortened d__first_cells d__joined G__first_cells G__joined
      have G__old_place := ok__old_place (P := l.prog) (w := w) (base := base) T d__old_place d__folder_of G__folder_of
      have G_file_at := ok_file_at (P := l.prog) (w := w) (base := base) T d_file_at d_come_to d_lets G_come_to G_lets
      have G__strike := ok__strike (P := l.prog) (w := w) (base := base) T d__strike d__old_place G__old_place
      have G__cut := ok__cut (P := l.prog) (w := w) (base := base) T d__cut d_file_at d_shortened G_file_at G_shortened
      have G__users_of := ok_users_of (P := l.prog) (w := w) (base := base) T d__users_of
      have G_may := ok_may (P := l.prog) (w := w) (base := base) T d_may d_is_groups d_is_word d_is_rights d__users_of G_is_groups G_is_word G_is_rights G__users_of
      have G__law_take := ok_take (P := l.prog) (w := w) (base := base) T d__law_take
      have G__law_purse := ok_purse (P := l.prog) (w := w) (base := base) T d__law_purse
      have G__law_people := ok_people (P := l.prog) (w := w) (base := base) T d__law_people d__law_take G__law_take
      have G__law_grants := ok_grants (P := l.prog) (w := w) (base := base) T d__law_grants d__law_take G__law_take
      have G__law_clubs := ok_clubs (P := l.prog) (w := w) (base := base) T d__law_clubs d__law_take G__law_take
      have G__law_let := ok_let (P := l.prog) (w := w) (base := base) T d__law_let
      have G_is_count := ok_is_count (P := l.prog) (w := w) (base := base) T d_is_count
      have G__is_cut := ok__is_cut (P := l.prog) (w := w) (base := base) T d__is_cut d_is_path d_is_count G_is_path G_is_count
      have G__law_due := ok_due (P := l.prog) (w := w) (base := base) T d__law_due
      have G_gone_along := ok_gone (P := l.prog) (w := w) (base := base) T d_gone_along d_is_path d_lets G_is_path G_lets
      have G_told_of_path := ok_told (P := l.prog) (w := w) (base := base) T d_told_of_path d_gone_along d__looked d__told_of G_gone_along G__looked G__told_of
      have G_tdA := ok_is_tree_deed (ok := fun e => e.rest = [] ∧ (okM e ∨ okS e ∨ e.tells = true)) (P := l.prog) (w := w) (base := base) T d_is_tree_deed d__is_of_path (fun e h => by
        obtain ⟨_, ⟨f, xs, rfl⟩ | ⟨xs, rfl⟩ | h⟩ := h
        · cases f
          · exact ⟨⟨_, _, _, q_FORMS, kl_FORMS, v_FORMS_file, rfl⟩, sm_FORMS⟩
          · exact ⟨⟨_, _, _, q_FORMS, kl_FORMS, v_FORMS_folder, rfl⟩, sm_FORMS⟩
        · exact ⟨⟨_, _, _, q_FORMS, kl_FORMS, v_FORMS_strike, rfl⟩, sm_FORMS⟩
        · cases e with
          | look xs => exact ⟨⟨_, _, _, q_FORMS, kl_FORMS, v_FORMS_look, rfl⟩, sm_FORMS⟩
          | list xs => exact ⟨⟨_, _, _, q_FORMS, kl_FORMS, v_FORMS_list, rfl⟩, sm_FORMS⟩
          | read xs => exact ⟨⟨_, _, _, q_FORMS, kl_FORMS, v_FORMS_read, rfl⟩, sm_FORMS⟩
          | _ => cases h) (chk_imp G__is_of_path fun e h => h.1)
      have G_tdR := ok_is_tree_deed (ok := okR) (P := l.prog) (w := w) (base := base) T d_is_tree_deed d__is_rights (fun e h => by
        obtain ⟨_, _, _, _, _, _, rfl⟩ := h
        exact ⟨⟨_, _, _, q_FORMS, kl_FORMS, v_FORMS_rights, rfl⟩, sm_FORMS⟩) G__is_rights
      have G_tdC := ok_is_tree_deed (ok := okC) (P := l.prog) (w := w) (base := base) T d_is_tree_deed d__is_cut (fun e h => by
        obtain ⟨_, _, rfl⟩ := h
        exact ⟨⟨_, _, _, q_FORMS, kl_FORMS, v_FORMS_cut, rfl⟩, sm_FORMS⟩) G__is_cut
      have G_is_tree_deed : FnOk l.prog w K mg base CX0 4 d_is_tree_deed.f d_is_tree_deed.fd ["thing"] (spChk okAll) := chk_imp (chk_or G_tdA (chk_or G_tdR G_tdC)) fun e h => by
        rcases h with ⟨f, xs, rfl⟩ | ⟨xs, rfl⟩ | h | h | h
        · exact .inl ⟨rfl, .inl ⟨f, xs, rfl⟩⟩
        · exact .inl ⟨rfl, .inr (.inl ⟨xs, rfl⟩)⟩
        · exact .inr (.inl h)
        · exact .inr (.inr h)
        · exact .inl ⟨dee_tells_rest h, .inr (.inr h)⟩
      have G_sM := ok_shape_deed (ok := okM) (P := l.prog) (w := w) (base := base) T d_shape_deed d__make (fun e h => by
        obtain ⟨f, _, rfl⟩ := h
        cases f
        · exact ⟨⟨_, _, _, q_ACTIONS_shapes, kl_ACTIONS_shapes, v_ACTIONS_shapes_file, rfl⟩, sm_ACTIONS_shapes⟩
        · exact ⟨⟨_, _, _, q_ACTIONS_shapes, kl_ACTIONS_shapes, v_ACTIONS_shapes_folder, rfl⟩, sm_ACTIONS_shapes⟩) G__make
      have G_sS := ok_shape_deed (ok := okS) (P := l.prog) (w := w) (base := base) T d_shape_deed d__strike (fun e h => by
        obtain ⟨_, rfl⟩ := h
        exact ⟨⟨_, _, _, q_ACTIONS_shapes, kl_ACTIONS_shapes, v_ACTIONS_shapes_strike, rfl⟩, sm_ACTIONS_shapes⟩) G__strike
      have G_sR := ok_shape_deed (ok := okR) (P := l.prog) (w := w) (base := base) T d_shape_deed d__rights (fun e h => by
        obtain ⟨_, _, _, _, _, _, rfl⟩ := h
        exact ⟨⟨_, _, _, q_ACTIONS_shapes, kl_ACTIONS_shapes, v_ACTIONS_shapes_rights, rfl⟩, sm_ACTIONS_shapes⟩) G__rights
      have G_sC := ok_shape_deed (ok := okC) (P := l.prog) (w := w) (base := base) T d_shape_deed d__cut (fun e h => by
        obtain ⟨_, _, rfl⟩ := h
        exact ⟨⟨_, _, _, q_ACTIONS_shapes, kl_ACTIONS_shapes, v_ACTIONS_shapes_cut, rfl⟩, sm_ACTIONS_shapes⟩) G__cut
      have G_shape := deed_or G_sM (deed_or G_sS (deed_or G_sR G_sC))
      have G_act := ok_act (P := l.prog) (w := w) (base := base) T d_Core_act d_lapse d_shape_deed d_room_deed d_telling_deed (fun e h => by
        obtain ⟨f, _, rfl⟩ | ⟨_, rfl⟩ | ⟨_, _, _, _, _, _, rfl⟩ | ⟨_, _, rfl⟩ := h
        · cases f
          · exact ⟨⟨_, _, _, q_SHAPING, kl_SHAPING, v_SHAPING_file, rfl⟩, sm_SHAPING⟩
          · exact ⟨⟨_, _, _, q_SHAPING, kl_SHAPING, v_SHAPING_folder, rfl⟩, sm_SHAPING⟩
        · exact ⟨⟨_, _, _, q_SHAPING, kl_SHAPING, v_SHAPING_strike, rfl⟩, sm_SHAPING⟩
        · exact ⟨⟨_, _, _, q_SHAPING, kl_SHAPING, v_SHAPING_rights, rfl⟩, sm_SHAPING⟩
        · exact ⟨⟨_, _, _, q_SHAPING, kl_SHAPING, v_SHAPING_cut, rfl⟩, sm_SHAPING⟩) G_lapse G_room_deed G_telling_deed G_shape
      have G_gathN : FnOk l.prog w K mg base CX0 1 d_gathered.f d_gathered.fd ["parts", "pieces"] spNo := fn_no
      have G_reply0 := ok_reply T d_Grove_reply d_Grove_with_cells d_Grove_put d_Core_act d_told_of_path d_wanted_parts d_filled d_gathered G_Grove_with_cells G_Grove_put G_act G_told_of_path G_wanted_parts G_filled G_gathN
      have G_reply := reply_ok (b := okAll) G_reply0 fun e h ht => by
        rcases h with h | h | h | h | h
        · exact .inl h
        · exact .inr (.inl h)
        · exact .inr (.inr (.inl h))
        · exact .inr (.inr (.inr h))
        · rw [ht] at h
          cases h
      have G_Tree_do := ok_do (ok := okAll) T d_Tree_do d_Grove_reply d_Grove_with_cells d_told_of_path d_is_tree_deed d_is_word G_Grove_with_cells G_reply G_told_of_path G_is_tree_deed G_is_word
      have G__law_made := ok_made (P := l.prog) (w := w) (base := base) T d__law_made d_Tree d_Tree_do kb_Tree G_Tree G_Tree_do
      have G__law_one_right := ok_one (P := l.prog) (w := w) (base := base) T d__law_one_right d_may d__law_let d__law_due d_Tree_do kb1 G_may G__law_let G__law_due G_Tree_do
      exact ok_law T d_law d__law_purse d__law_people d__law_take d__law_clubs d__law_grants d__law_made d__law_one_right G__law_purse G__law_people G__law_take G__law_clubs G__law_grants G__law_made G__law_one_right)]
  intro b q h; simpa using FB.pinF b h
  eq_refl
end K05
/-! The names of the quick twins of the greatest trees of states are taken here: their equations would be most of the compiled file. -/
namespace PySem.W.Fast
def tw16386780836281946822 : Unit := ()
def tw6262045729943724172 : Unit := ()
def tw12571954371766924703 : Unit := ()
def tw12617085509099569576 : Unit := ()
def tw17120853725690282948 : Unit := ()
def tw8422840672639008889 : Unit := ()
def tw2038981868833737562 : Unit := ()
def tw17181430443913643291 : Unit := ()
def tw9107532072068741620 : Unit := ()
def tw15026125714462104624 : Unit := ()
def tw13081598773787268626 : Unit := ()
def tw3273488249054270966 : Unit := ()
end PySem.W.Fast
open PySem PySem.W PyProof.Rows
set_option maxRecDepth 100000 in
set_option maxHeartbeats 8000000 in
theorem PySem.Challenge.cw_farfiles_k05_whole_may_and_the_tree_holds : PySem.Challenge.rw_farfiles_k05_whole_may_and_the_tree.Holds := by
  w_on; o_law; k_head; (case hw => w_witness2)
  k_fill
  refine FB.walk_g (l := PySem.Challenge.rw_farfiles_k05_whole_may_and_the_tree) (n := 63) (k := 13) (x := "_law_script") (sp := fun w => K05.spLaw _) rfl (by decide) rfl ⟨rfl, by decide, by decide⟩ (fun w h Y => PySem.W.kIn_of Y) ?F (fun _ _ a ns hl _ hS => ⟨a, ns, rfl, hS, hl, fun _ => rfl⟩)
  case F =>
    intro w mg fa h KX G hmg
    refine' K05.all_mk KX G hmg ?a_is_word ?l_is_word ?c_is_word ?k_is_word ?a_is_path ?l_is_path ?c_is_path ?k_is_path ?a_is_rights ?l_is_rights ?c_is_rights ?k_is_rights ?a_is_groups ?l_is_groups ?c_is_groups ?k_is_groups ?a__is_rights_text ?l__is_rights_text ?c__is_rights_text ?k__is_rights_text ?a__is_members ?l__is_members ?c__is_members ?k__is_members ?a_may ?l_may ?c_may ?k_may ?a__users_of ?l__users_of ?c__users_of ?k__users_of ?a_is_count ?l_is_count ?c_is_count ?k_is_count ?a_is_tree_deed ?l_is_tree_deed ?c_is_tree_deed ?k_is_tree_deed ?a__is_of_path ?l__is_of_path ?c__is_of_path ?k__is_of_path ?a__is_cut ?l__is_cut ?c__is_cut ?k__is_cut ?a__is_rights ?l__is_rights ?c__is_rights ?k__is_rights ?a_give_rights ?l_give_rights ?c_give_rights ?k_give_rights ?a_lets ?l_lets ?c_lets ?k_lets ?a_gone_along ?l_gone_along ?c_gone_along ?k_gone_along ?a_come_to ?l_come_to ?c_come_to ?k_come_to ?a_file_at ?l_file_at ?c_file_at ?k_file_at ?a_owns ?l_owns ?c_owns ?k_owns ?a_has_room ?l_has_room ?c_has_room ?k_has_room ?a_used ?l_used ?c_used ?k_used ?a_held ?l_held ?c_held ?k_held ?a__strained_folders ?l__strained_folders ?c__strained_folders ?k__strained_folders ?a__strained_users ?l__strained_users ?c__strained_users ?k__strained_users ?a_shortened ?l_shortened ?c_shortened ?k_shortened ?a__first_cells ?l__first_cells ?c__first_cells ?k__first_cells ?a__joined ?l__joined ?c__joined ?k__joined ?a__goes_on ?l__goes_on ?c__goes_on ?k__goes_on ?a_gathered ?l_gathered ?c_gathered ?k_gathered ?a_filled ?l_filled ?c_filled ?k_filled ?a_lapse ?l_lapse ?c_lapse ?k_lapse ?a_room_deed ?l_room_deed ?c_room_deed ?k_room_deed ?a_telling_deed ?l_telling_deed ?c_telling_deed ?k_telling_deed ?a_shape_deed ?l_shape_deed ?c_shape_deed ?k_shape_deed ?a__folder_of ?l__folder_of ?c__folder_of ?k__folder_of ?a__new_place ?l__new_place ?c__new_place ?k__new_place ?a__old_place ?l__old_place ?c__old_place ?k__old_place ?a__make ?l__make ?c__make ?k__make ?a__strike ?l__strike ?c__strike ?k__strike ?a__cut ?l__cut ?c__cut ?k__cut ?a__rights ?l__rights ?c__rights ?k__rights ?a_told_of_path ?l_told_of_path ?c_told_of_path ?k_told_of_path ?a__looked ?l__looked ?c__looked ?k__looked ?a__told_of ?l__told_of ?c__told_of ?k__told_of ?a_wanted_parts ?l_wanted_parts ?c_wanted_parts ?k_wanted_parts ?a__law_purse ?l__law_purse ?c__law_purse ?k__law_purse ?a__law_take ?l__law_take ?c__law_take ?k__law_take ?a__law_people ?l__law_people ?c__law_people ?k__law_people ?a__law_clubs ?l__law_clubs ?c__law_clubs ?k__law_clubs ?a__law_grants ?l__law_grants ?c__law_grants ?k__law_grants ?a__law_let ?l__law_let ?c__law_let ?k__law_let ?a__law_made ?l__law_made ?c__law_made ?k__law_made ?a__law_due ?l__law_due ?c__law_due ?k__law_due ?a__law_one_right ?l__law_one_right ?c__law_one_right ?k__law_one_right ?a_law ?l_law ?c_law ?k_law ?a_Folder ?p1_Folder ?p2_Folder ?p3_Folder ?p4_Folder ?a_File ?p1_File ?p2_File ?p3_File ?p4_File ?a_Core ?p1_Core ?p2_Core ?p3_Core ?p4_Core ?a_Grove ?p1_Grove ?p2_Grove ?p3_Grove ?p4_Grove ?a_Tree ?p1_Tree ?p2_Tree ?p3_Tree ?p4_Tree ?a_Promise ?p1_Promise ?p2_Promise ?p3_Promise ?p4_Promise ?h_Folder ?t_Folder ?h_File ?t_File ?m1_Folder ?i_Folder ?n_Folder ?kc_Folder ?l_Folder_init ?c_Folder_init ?k_Folder_init ?m1_File ?i_File ?n_File ?kc_File ?l_File_init ?c_File_init ?k_File_init ?m1_Core ?i_Core ?n_Core ?kc_Core ?l_Core_init ?c_Core_init ?k_Core_init ?m1_Tree ?i_Tree ?n_Tree ?kc_Tree ?l_Tree_init ?c_Tree_init ?k_Tree_init ?dfl_Tree ?r1_Grove ?r2_Grove ?fc_Grove ?l_Grove_init ?c_Grove_init ?k_Grove_init ?i_Core_act ?n_Core_act ?l_Core_act ?c_Core_act ?k_Core_act ?i_Grove_reply ?n_Grove_reply ?l_Grove_reply ?c_Grove_reply ?k_Grove_reply ?i_Grove_with_cells ?n_Grove_with_cells ?l_Grove_with_cells ?c_Grove_with_cells ?k_Grove_with_cells ?i_Grove_put ?n_Grove_put ?l_Grove_put ?c_Grove_put ?k_Grove_put ?i_Tree_do ?n_Tree_do ?l_Tree_do ?c_Tree_do ?k_Tree_do ?na_Folder_kind ?na_Folder_owner ?na_Folder_group ?na_Folder_rights ?na_Folder_is_open ?na_Folder_names ?na_Folder_limit ?na_File_kind ?na_File_owner ?na_File_group ?na_File_rights ?na_File_is_open ?na_File_names ?na_File_parts ?na_File_size ?na_File_promised ?na_File_links ?na_Core_groups ?na_Core_members ?na_Core_clock ?na_Core_top ?na_Core_promises ?na_Core_made ?na_Core_limited ?na_Core_shares ?na_Core_is_watched ?na_Core_strains ?na_Core_snaps ?na_Core_snapped ?na_Tree_core ?na_Tree_pieces ?x1_Folder ?x2_Folder ?x3_Folder ?x1_File ?x2_File ?x3_File ?y1 ?y2 ?y3 ?y4 ?e1 ?e2 ?e3 ?z_len ?z_all ?z_any ?z_isinstance ?z_repr ?z_str ?z_tuple ?z_bool ?z_int ?z_list ?z_max ?z_min ?z_range ?z_sum ?z_dict ?z_sorted ?z_set ?z_zip ?g_ROOT ?g_LETTERS ?g_MOST_LETTERS ?g_MOST_NAMES ?g_MOST_GROUPS ?g_DONE ?q_DONE ?g_NO_RIGHT ?q_NO_RIGHT ?g_NO_ROOM ?q_NO_ROOM ?g_NEW_RIGHTS ?q_NEW_RIGHTS ?g_PATH_WORDS ?q_PATH_WORDS ?g_GLANCED ?q_GLANCED ?g_RIGHTS_TEXTS ?q_RIGHTS_TEXTS ?g_SIGNS ?q_SIGNS ?g_FORMS ?q_FORMS ?kl_FORMS ?sm_FORMS ?v_FORMS_folder ?v_FORMS_file ?v_FORMS_strike ?v_FORMS_read ?v_FORMS_list ?v_FORMS_look ?v_FORMS_cut ?v_FORMS_rights ?g_TREE_FORMS ?g_ACTIONS_shapes ?q_ACTIONS_shapes ?kl_ACTIONS_shapes ?sm_ACTIONS_shapes ?v_ACTIONS_shapes_folder ?v_ACTIONS_shapes_file ?v_ACTIONS_shapes_strike ?v_ACTIONS_shapes_cut ?v_ACTIONS_shapes_rights ?g_SHAPING ?q_SHAPING ?kl_SHAPING ?sm_SHAPING ?v_SHAPING_folder ?v_SHAPING_file ?v_SHAPING_strike ?v_SHAPING_cut ?v_SHAPING_rights ?g_ROOMY
    case a_is_word => k_is
    case l_is_word => k_is
    case c_is_word => k_is
    case k_is_word => k_is
    case a_is_path => k_is
    case l_is_path => k_is
    case c_is_path => k_is
    case k_is_path => k_is
    case a_is_rights => k_is
    case l_is_rights => k_is
    case c_is_rights => k_is
    case k_is_rights => k_is
    case a_is_groups => k_is
    case l_is_groups => k_is
    case c_is_groups => k_is
    case k_is_groups => k_is
    case a__is_rights_text => k_is
    case l__is_rights_text => k_is
    case c__is_rights_text => k_is
    case k__is_rights_text => k_is
    case a__is_members => k_is
    case l__is_members => k_is
    case c__is_members => k_is
    case k__is_members => k_is
    case a_may => k_is
    case l_may => k_is
    case c_may => k_is
    case k_may => k_is
    case a__users_of => k_is
    case l__users_of => k_is
    case c__users_of => k_is
    case k__users_of => k_is
    case a_is_count => k_is
    case l_is_count => k_is
    case c_is_count => k_is
    case k_is_count => k_is
    case a_is_tree_deed => k_is
    case l_is_tree_deed => k_is
    case c_is_tree_deed => k_is
    case k_is_tree_deed => k_is
    case a__is_of_path => k_is
    case l__is_of_path => k_is
    case c__is_of_path => k_is
    case k__is_of_path => k_is
    case a__is_cut => k_is
    case l__is_cut => k_is
    case c__is_cut => k_is
    case k__is_cut => k_is
    case a__is_rights => k_is
    case l__is_rights => k_is
    case c__is_rights => k_is
    case k__is_rights => k_is
    case a_give_rights => k_is
    case l_give_rights => k_is
    case c_give_rights => k_is
    case k_give_rights => k_is
    case a_lets => k_is
    case l_lets => k_is
    case c_lets => k_is
    case k_lets => k_is
    case a_gone_along => k_is
    case l_gone_along => k_is
    case c_gone_along => k_is
    case k_gone_along => k_is
    case a_come_to => k_is
    case l_come_to => k_is
    case c_come_to => k_is
    case k_come_to => k_is
    case a_file_at => k_is
    case l_file_at => k_is
    case c_file_at => k_is
    case k_file_at => k_is
    case a_owns => k_is
    case l_owns => k_is
    case c_owns => k_is
    case k_owns => k_is
    case a_has_room => k_is
    case l_has_room => k_is
    case c_has_room => k_is
    case k_has_room => k_is
    case a_used => k_is
    case l_used => k_is
    case c_used => k_is
    case k_used => k_is
    case a_held => k_is
    case l_held => k_is
    case c_held => k_is
    case k_held => k_is
    case a__strained_folders => k_is
    case l__strained_folders => k_is
    case c__strained_folders => k_is
    case k__strained_folders => k_is
    case a__strained_users => k_is
    case l__strained_users => k_is
    case c__strained_users => k_is
    case k__strained_users => k_is
    case a_shortened => k_is
    case l_shortened => k_is
    case c_shortened => k_is
    case k_shortened => k_is
    case a__first_cells => k_is
    case l__first_cells => k_is
    case c__first_cells => k_is
    case k__first_cells => k_is
    case a__joined => k_is
    case l__joined => k_is
    case c__joined => k_is
    case k__joined => k_is
    case a__goes_on => k_is
    case l__goes_on => k_is
    case c__goes_on => k_is
    case k__goes_on => k_is
    case a_gathered => k_is
    case l_gathered => k_is
    case c_gathered => k_is
    case k_gathered => k_is
    case a_filled => k_is
    case l_filled => k_is
    case c_filled => k_is
    case k_filled => k_is
    case a_lapse => k_is
    case l_lapse => k_is
    case c_lapse => k_is
    case k_lapse => k_is
    case a_room_deed => k_is
    case l_room_deed => k_is
    case c_room_deed => k_is
    case k_room_deed => k_is
    case a_telling_deed => k_is
    case l_telling_deed => k_is
    case c_telling_deed => k_is
    case k_telling_deed => k_is
    case a_shape_deed => k_is
    case l_shape_deed => k_is
    case c_shape_deed => k_is
    case k_shape_deed => k_is
    case a__folder_of => k_is
    case l__folder_of => k_is
    case c__folder_of => k_is
    case k__folder_of => k_is
    case a__new_place => k_is
    case l__new_place => k_is
    case c__new_place => k_is
    case k__new_place => k_is
    case a__old_place => k_is
    case l__old_place => k_is
    case c__old_place => k_is
    case k__old_place => k_is
    case a__make => k_is
    case l__make => k_is
    case c__make => k_is
    case k__make => k_is
    case a__strike => k_is
    case l__strike => k_is
    case c__strike => k_is
    case k__strike => k_is
    case a__cut => k_is
    case l__cut => k_is
    case c__cut => k_is
    case k__cut => k_is
    case a__rights => k_is
    case l__rights => k_is
    case c__rights => k_is
    case k__rights => k_is
    case a_told_of_path => k_is
    case l_told_of_path => k_is
    case c_told_of_path => k_is
    case k_told_of_path => k_is
    case a__looked => k_is
    case l__looked => k_is
    case c__looked => k_is
    case k__looked => k_is
    case a__told_of => k_is
    case l__told_of => k_is
    case c__told_of => k_is
    case k__told_of => k_is
    case a_wanted_parts => k_is
    case l_wanted_parts => k_is
    case c_wanted_parts => k_is
    case k_wanted_parts => k_is
    case a__law_purse => k_is
    case l__law_purse => k_is
    case c__law_purse => k_is
    case k__law_purse => k_is
    case a__law_take => k_is
    case l__law_take => k_is
    case c__law_take => k_is
    case k__law_take => k_is
    case a__law_people => k_is
    case l__law_people => k_is
    case c__law_people => k_is
    case k__law_people => k_is
    case a__law_clubs => k_is
    case l__law_clubs => k_is
    case c__law_clubs => k_is
    case k__law_clubs => k_is
    case a__law_grants => k_is
    case l__law_grants => k_is
    case c__law_grants => k_is
    case k__law_grants => k_is
    case a__law_let => k_is
    case l__law_let => k_is
    case c__law_let => k_is
    case k__law_let => k_is
    case a__law_made => k_is
    case l__law_made => k_is
    case c__law_made => k_is
    case k__law_made => k_is
    case a__law_due => k_is
    case l__law_due => k_is
    case c__law_due => k_is
    case k__law_due => k_is
    case a__law_one_right => k_is
    case l__law_one_right => k_is
    case c__law_one_right => k_is
    case k__law_one_right => k_is
    case a_law => k_is
    case l_law => k_is
    case c_law => k_is
    case k_law => k_is
    case a_Folder => k_is
    case p1_Folder => k_is
    case p2_Folder => k_is
    case p3_Folder => k_is
    case p4_Folder => k_is
    case a_File => k_is
    case p1_File => k_is
    case p2_File => k_is
    case p3_File => k_is
    case p4_File => k_is
    case a_Core => k_is
    case p1_Core => k_is
    case p2_Core => k_is
    case p3_Core => k_is
    case p4_Core => k_is
    case a_Grove => k_is
    case p1_Grove => k_is
    case p2_Grove => k_is
    case p3_Grove => k_is
    case p4_Grove => k_is
    case a_Tree => k_is
    case p1_Tree => k_is
    case p2_Tree => k_is
    case p3_Tree => k_is
    case p4_Tree => k_is
    case a_Promise => k_is
    case p1_Promise => k_is
    case p2_Promise => k_is
    case p3_Promise => k_is
    case p4_Promise => k_is
    case h_Folder => k_is
    case t_Folder => k_is
    case h_File => k_is
    case t_File => k_is
    case m1_Folder => k_is
    case i_Folder => k_is
    case n_Folder => k_is
    case kc_Folder => k_is
    case l_Folder_init => k_is
    case c_Folder_init => k_is
    case k_Folder_init => k_is
    case m1_File => k_is
    case i_File => k_is
    case n_File => k_is
    case kc_File => k_is
    case l_File_init => k_is
    case c_File_init => k_is
    case k_File_init => k_is
    case m1_Core => k_is
    case i_Core => k_is
    case n_Core => k_is
    case kc_Core => k_is
    case l_Core_init => k_is
    case c_Core_init => k_is
    case k_Core_init => k_is
    case m1_Tree => k_is
    case i_Tree => k_is
    case n_Tree => k_is
    case kc_Tree => k_is
    case l_Tree_init => k_is
    case c_Tree_init => k_is
    case k_Tree_init => k_is
    case dfl_Tree => k_is
    case r1_Grove => k_is
    case r2_Grove => k_is
    case fc_Grove => k_is
    case l_Grove_init => k_is
    case c_Grove_init => k_is
    case k_Grove_init => k_is
    case i_Core_act => k_is
    case n_Core_act => k_is
    case l_Core_act => k_is
    case c_Core_act => k_is
    case k_Core_act => k_is
    case i_Grove_reply => k_is
    case n_Grove_reply => k_is
    case l_Grove_reply => k_is
    case c_Grove_reply => k_is
    case k_Grove_reply => k_is
    case i_Grove_with_cells => k_is
    case n_Grove_with_cells => k_is
    case l_Grove_with_cells => k_is
    case c_Grove_with_cells => k_is
    case k_Grove_with_cells => k_is
    case i_Grove_put => k_is
    case n_Grove_put => k_is
    case l_Grove_put => k_is
    case c_Grove_put => k_is
    case k_Grove_put => k_is
    case i_Tree_do => k_is
    case n_Tree_do => k_is
    case l_Tree_do => k_is
    case c_Tree_do => k_is
    case k_Tree_do => k_is
    case na_Folder_kind => k_is
    case na_Folder_owner => k_is
    case na_Folder_group => k_is
    case na_Folder_rights => k_is
    case na_Folder_is_open => k_is
    case na_Folder_names => k_is
    case na_Folder_limit => k_is
    case na_File_kind => k_is
    case na_File_owner => k_is
    case na_File_group => k_is
    case na_File_rights => k_is
    case na_File_is_open => k_is
    case na_File_names => k_is
    case na_File_parts => k_is
    case na_File_size => k_is
    case na_File_promised => k_is
    case na_File_links => k_is
    case na_Core_groups => k_is
    case na_Core_members => k_is
    case na_Core_clock => k_is
    case na_Core_top => k_is
    case na_Core_promises => k_is
    case na_Core_made => k_is
    case na_Core_limited => k_is
    case na_Core_shares => k_is
    case na_Core_is_watched => k_is
    case na_Core_strains => k_is
    case na_Core_snaps => k_is
    case na_Core_snapped => k_is
    case na_Tree_core => k_is
    case na_Tree_pieces => k_is
    case x1_Folder => k_is
    case x2_Folder => k_is
    case x3_Folder => k_is
    case x1_File => k_is
    case x2_File => k_is
    case x3_File => k_is
    case y1 => k_is
    case y2 => k_is
    case y3 => k_is
    case y4 => k_is
    case e1 => decide +kernel
    case e2 => decide +kernel
    case e3 => decide +kernel
    case z_len => k_is
    case z_all => k_is
    case z_any => k_is
    case z_isinstance => k_is
    case z_repr => k_is
    case z_str => k_is
    case z_tuple => k_is
    case z_bool => k_is
    case z_int => k_is
    case z_list => k_is
    case z_max => k_is
    case z_min => k_is
    case z_range => k_is
    case z_sum => k_is
    case z_dict => k_is
    case z_sorted => k_is
    case z_set => k_is
    case z_zip => k_is
    case g_ROOT => k_is
    case g_LETTERS => k_is
    case g_MOST_LETTERS => k_is
    case g_MOST_NAMES => k_is
    case g_MOST_GROUPS => k_is
    case g_DONE => k_is
    case q_DONE => k_is
    case g_NO_RIGHT => k_is
    case q_NO_RIGHT => k_is
    case g_NO_ROOM => k_is
    case q_NO_ROOM => k_is
    case g_NEW_RIGHTS => k_is
    case q_NEW_RIGHTS => k_is
    case g_PATH_WORDS => k_is
    case q_PATH_WORDS => k_is
    case g_GLANCED => k_is
    case q_GLANCED => k_is
    case g_RIGHTS_TEXTS => k_is
    case q_RIGHTS_TEXTS => k_is
    case g_SIGNS => k_is
    case q_SIGNS => k_is
    case g_FORMS => k_is
    case q_FORMS => k_is
    case kl_FORMS => (repeat (first | exact trivial | refine ⟨⟨_, _, rfl, rfl⟩, ?_⟩))
    case sm_FORMS => decide +kernel
    case v_FORMS_folder => k_is
    case v_FORMS_file => k_is
    case v_FORMS_strike => k_is
    case v_FORMS_read => k_is
    case v_FORMS_list => k_is
    case v_FORMS_look => k_is
    case v_FORMS_cut => k_is
    case v_FORMS_rights => k_is
    case g_TREE_FORMS => k_is
    case g_ACTIONS_shapes => k_is
    case q_ACTIONS_shapes => k_is
    case kl_ACTIONS_shapes => (repeat (first | exact trivial | refine ⟨⟨_, _, rfl, rfl⟩, ?_⟩))
    case sm_ACTIONS_shapes => decide +kernel
    case v_ACTIONS_shapes_folder => k_is
    case v_ACTIONS_shapes_file => k_is
    case v_ACTIONS_shapes_strike => k_is
    case v_ACTIONS_shapes_cut => k_is
    case v_ACTIONS_shapes_rights => k_is
    case g_SHAPING => k_is
    case q_SHAPING => k_is
    case kl_SHAPING => (repeat (first | exact trivial | refine ⟨⟨_, _, rfl, rfl⟩, ?_⟩))
    case sm_SHAPING => decide +kernel
    case v_SHAPING_folder => k_is
    case v_SHAPING_file => k_is
    case v_SHAPING_strike => k_is
    case v_SHAPING_cut => k_is
    case v_SHAPING_rights => k_is
    case g_ROOMY => k_is
