import PyProof.Rows.All
import Wide.All
import OpenK.AllK
import Wide.FinOn
import HandS.ForMost
import HandS.IsInst
import HandS.TupAny
import HandS.TupMul
import HandS.Wide
import PyProof.ReprRoads
import KE.GoesEnum
import PyProof.EqKinds
import HandS.FStrTup
import PyProof.FitsInt
import HandS.Walk
import PyProof.NeKinds
import HandS.Flow
import HandS.DeepEq
import HandS.Style
import PySem.Challenge.RW_heldapart_k05_what_are_stores_and_heaps
set_option Elab.async false
set_option linter.all false
set_option maxRecDepth 100000
set_option maxHeartbeats 4000000
/-! Calls that carry the word «no repr is under way», so that repr of data is known. -/
namespace L2.Hx
open PySem PySem.Spec PyProof.Rows

/-- FnOk, for callers around whom no guard stands -/
structure FnG (P : Program) (w : World) (K : PySem.W.Frag) (mg : Str → Option Value) (base : Heap) (CX : CXT) (k : Nat) (f : Addr) (fd : FuncData) (ps : List Str) (sp : Sp) : Prop where
  ln : ∀ vs H Q E, sp vs H Q E → vs.length = ps.length
  go : ∀ (A : Around) (outer : List Env) (s : Shared) (H : Hp) (args : Args) (us : List Value) (vs : List V) (Q : VK) (E : XK), A.guards = some [] → Room k A → Env0 P w K mg base A outer s H →
    BindsTo s fd args (ps.zip us) → Vals vs us → sp vs H Q E → codeAny (model P w) A (.call (.ref f) args) (CR CX outer P w H s Q E) s

section
variable {P : Program} {w : World} {K : PySem.W.Frag} {mg : Str → Option Value} {base : Heap} {CX : CXT} {f : Addr} {fd : FuncData} {ps : List Str} {sp : Sp} {k : Nat}
theorem FnG.ofOk (F : FnOk P w K mg base CX k f fd ps sp) : FnG P w K mg base CX k f fd ps sp :=
  ⟨F.len, fun A outer s H args us vs Q E _ hr e b r h => F.run A outer s H args us vs Q E hr e b r h⟩
theorem FnG.mono {j : Nat} (F : FnG P w K mg base CX j f fd ps sp) (h : j ≤ k) : FnG P w K mg base CX k f fd ps sp :=
  ⟨F.ln, fun A outer s H args us vs Q E hg hr => F.go A outer s H args us vs Q E hg (hr.mono h)⟩
theorem FnG.imp {sp' : Sp} (F : FnG P w K mg base CX k f fd ps sp) (h : ∀ vs H Q E, sp' vs H Q E → sp vs H Q E) : FnG P w K mg base CX k f fd ps sp' :=
  ⟨fun vs H Q E q => F.ln vs H Q E (h _ _ _ _ q), fun A outer s H args us vs Q E hg hr e b r q => F.go A outer s H args us vs Q E hg hr e b r (h _ _ _ _ q)⟩
/-- a def by its body -/
theorem fng_of {name qual : Str} {params : Arguments} {body : List Stmt} {scope : Scope} {dV kV doc pm cdv ct oc : Value} {an od : Option Addr} {osl : Array (Option Value)} {N : List Str}
    (lk : K.lookup f = some ⟨oc, od, .func (PySem.W.fnOf name qual params body scope dV kV doc pm an cdv ct), osl⟩) (hcd : PySem.W.codeIn K cdv qual = true) (S : FnScope N ps scope)
    (hn : ∀ vs H Q E, sp vs H Q E → vs.length = ps.length)
    (hbody : ∀ (A : Around) (outer : List Env) (s : Shared) (H : Hp) (vs : List V) (Q : VK) (E : XK), A.guards = some [] → Room k (A.deeper (envOfC qual scope s.heap.objs.size f cdv)) → sp vs H Q E →
      ∃ t, PSs (cxOf CX P w K mg base N qual scope f cdv A outer s H E) body t ∧ t { nx := fun _ H' => Q .non H', rt := Q } (start N vs) H) :
    FnG P w K mg base CX (k + 1) f (PySem.W.fnOf name qual params body scope dV kV doc pm an cdv ct) ps sp := by
  refine ⟨hn, fun A outer s H args us vs Q E hgd hr en hbd rv hsp => ?_⟩
  have hlen := hn _ _ _ _ hsp
  have kin : K.In s.heap := en.mod.kin.keeps fun b o q => (en.bs b o q).1
  have nol : s.heap.NoLimit := en.mod.nolimit.keeps fun b o q => (en.bs b o q).1
  have kinds : ∀ y ∈ ps.zip us, scope.names.lookup y.1 = some .local ∨ (scope.names.lookup y.1 = some .cell ∧ ((cellsFrom (s.heap.objs.size + 1) scope.names []).lookup y.1).isSome = true) := fun ⟨n, v⟩ hy =>
    (S.par n (List.of_mem_zip hy).1).elim (fun z => .inl z) fun z => .inr ⟨z, PySem.W.cellsFrom_some _ _ _ (.inl z)⟩
  refine codeAny_call_function hr.depth (kin _ _ lk) rfl S.co S.gen rfl (PySem.W.codeRec_of kin hcd) (hbd _ _ _ _ ?_)
  refine wpAny_newFunctionEnv_cells S.kind kinds fun env he s1 x => ?_
  subst he
  refine ⟨nol.keeps x.toInCall.keep, codeAny_func ?_⟩
  obtain ⟨t, ht, hq⟩ := hbody A outer s H vs Q E hgd (hr.deeper _) hsp
  have J0 := inv_start (CX := CX) (P := P) (w := w) (K := K) (mg := mg) (base := base) (E := E) S hr.hd en hlen rv x
  refine wpAny_mono (ht.run [] s1 (start N vs) H _ J0 hq) (fun fl s2 hs => ?_) fun e s2 hs => hs
  cases fl with
  | ret u => obtain ⟨v, σ', H', J, r, q⟩ := hs; exact ⟨v, H', J.os, J.bare, J.base, J.hok, r, q⟩
  | next => obtain ⟨σ', H', J, q⟩ := hs; exact ⟨V.non, H', J.os, J.bare, J.base, J.hok, rfl, q⟩
  | brk => obtain ⟨_, _, _, q⟩ := hs; exact q.elim
  | cont => obtain ⟨_, _, _, q⟩ := hs; exact q.elim
/-- a def of the text that lets nothing out -/
theorem okG {x qual : Str} {st : Stmt} {N : List Str} (F : Fun K x qual st f fd) (S : FnScope N ps (defScope st)) (hn : ∀ vs H Q E, sp vs H Q E → vs.length = ps.length)
    (hbody : ∀ (cdv : Value) (A : Around) (outer : List Env) (s : Shared) (H : Hp) (vs : List V) (Q : VK) (E : XK), (A.deeper (envOfC qual (defScope st) s.heap.objs.size f cdv)).guards = some [] → Room k (A.deeper (envOfC qual (defScope st) s.heap.objs.size f cdv)) → sp vs H Q E →
      ∃ t, PSs (cxOf CX0 P w K mg base N qual (defScope st) f cdv A outer s H E).nox (defBody st) t ∧ t { nx := fun _ H' => Q .non H', rt := Q } (start N vs) H) :
    FnG P w K mg base CX0 (k + 1) f fd ps sp := by
  obtain ⟨oc, od, kV, doc, pm, an, cdv, ct, osl, rfl, lk, hcd⟩ := F.ex
  refine fng_of lk hcd S hn fun A outer s H vs Q E hgd hr hsp => ?_
  obtain ⟨t, h, q⟩ := hbody cdv A outer s H vs Q E hgd hr hsp
  exact ⟨t, h.nox, q⟩
end

section
variable {X : Cx} {CX : CXT} {k : Nat} {f : Addr} {fd : FuncData} {ps ks : List Str} {sp : Sp} {dvs : List V} {ds : List Value} {E : XK} {x : Str} {p pos : Pos} {e : Expr} {es : List Expr} {kws : List Keyword} {t tk : TA}
/-- the callee runs -/
theorem run_g {pins : List (Addr × Obj)} {σ : St} {H : Hp} {s : Shared} {Q : VK} {us : List Value} {vs : List V} (F : FnG X.prog X.w X.K X.mg X.base CX k f fd ps sp) (hgd : X.A.guards = some []) (hr : Room k X.A) (hb : Binds X.K fd ps ds) (hd : Vals dvs ds) (hx : Passes CX X E)
    (I : Inv X pins σ H s) (r : Vals vs us) (h : sp (vs ++ dvs) H Q E) : wpAny (model X.prog X.w) X.A (call (.ref f) us) (EP X pins σ Q) X.xe s := by
  have rd : Vals (vs ++ dvs) (us ++ ds) := r.append hd
  have hlen : (us ++ ds).length = ps.length := rd.length.symm.trans (F.ln _ _ _ _ h)
  refine wpAny_call (codeAny_mono (F.go X.A X.stack s H ⟨us, []⟩ (us ++ ds) (vs ++ dvs) Q E hgd hr I.env0 (hb s us I.kIn hlen) rd h) fun z s2 hq => ?_)
  cases z with
  | error er => exact hx pins σ H s er s2 I hq
  | ok fl =>
    cases fl with
    | ret u => exact I.after hq
    | next => exact hq.elim
    | brk => exact hq.elim
    | cont => exact hq.elim
theorem pe_g (F : FnG X.prog X.w X.K X.mg X.base CX k f fd ps sp) (hgd : X.A.guards = some []) (hr : Room k X.A) (hg : Gl X x) (hm : X.mg x = some (.ref f)) (hk : PySem.W.keepIn X.K (.ref f) = true) (hb : Binds X.K fd ps ds) (hd : Vals dvs ds) (hx : Passes CX X E)
    (ha : PA X (e :: es) t) (hdb : (x == ("__debug__" : Str)) = false := by decide) (he : starEach (e :: es) X.env = (false, eval e X.env) :: starEach es X.env := by rfl) (hpl : (backTo pos (starEach es X.env)).any (·.1) = false := by rfl) :
    PE X (.Call (.Name x p) (e :: es) [] pos) (tCall sp dvs E t) := ⟨fun pins s σ H Q I h =>
  wpAny_Call_Name_kw (ld_glob I hg hm (PySem.W.callWith_K (h₀ := X.base) I.ok.mod.kin hk (thn (ha.run pos pins s σ H _ I h) fun us s1 ⟨vs, H1, I1, r, q⟩ => ⟨I1.kIn, run_g F hgd hr hb hd hx I1 r q⟩) he hpl) hdb)⟩
theorem pe_g0 (F : FnG X.prog X.w X.K X.mg X.base CX k f fd ps sp) (hgd : X.A.guards = some []) (hr : Room k X.A) (hg : Gl X x) (hm : X.mg x = some (.ref f)) (hk : PySem.W.keepIn X.K (.ref f) = true) (hb : Binds X.K fd ps ds) (hd : Vals dvs ds) (hx : Passes CX X E)
    (hdb : (x == ("__debug__" : Str)) = false := by decide) : PE X (.Call (.Name x p) [] [] pos) (tCall sp dvs E tNil) := ⟨fun pins s σ H Q I h =>
  wpAny_Call_Name_kw (ld_glob I hg hm (PySem.W.callWith_K0 I.kIn hk (run_g (us := []) F hgd hr hb hd hx I .nil h)) hdb)⟩
/-- f(k = v, ..) by names alone: hb puts the values in the parameters' order -/
def KwBinds (K : PySem.W.Frag) (fd : FuncData) (ps ks : List Str) (g : {α : Type} → List α → List α) : Prop :=
  ∀ (s : Shared) (ws : List Value), K.In s.heap → ws.length = ps.length → BindsTo s fd ⟨[], ks.zip ws⟩ (ps.zip (g ws))
def tKw (sp : Sp) (g : {α : Type} → List α → List α) (n : Nat) (E : XK) (tk : TA) : TE := fun σ H Q => tk σ H fun zs H2 => zs.length = n ∧ sp (g zs) H2 Q E
theorem pe_kw {g : {α : Type} → List α → List α} (F : FnG X.prog X.w X.K X.mg X.base CX k f fd ps sp) (hgd : X.A.guards = some []) (hr : Room k X.A) (hg : Gl X x) (hm : X.mg x = some (.ref f)) (hk : PySem.W.keepIn X.K (.ref f) = true) (hb : KwBinds X.K fd ps ks g) (hx : Passes CX X E)
    (hkw : PK X kws tk) (hrel : ∀ {zs : List V} {ws : List Value}, Vals zs ws → Vals (g zs) (g ws)) (hall : (backToKw pos (keywordEach kws X.env)).all (·.1.isSome) = true := by rfl) (hks : (backToKw pos (keywordEach kws X.env)).filterMap (·.1) = ks := by rfl) (hdb : (x == ("__debug__" : Str)) = false := by decide)
    (hpl : ((backTo pos (starEach [] X.env)).any (·.1) || (backToKw pos (keywordEach kws X.env)).any (·.1.isNone)) = false := by rfl) :
    PE X (.Call (.Name x p) [] kws pos) (tKw sp g ps.length E tk) := by
  refine ⟨fun pins s σ H Q I h => wpAny_Call_Name_kw (ld_glob I hg hm ?_ hdb)⟩
  refine PySem.W.callWith_KW0 (h₀ := X.base) I.ok.mod.kin hk hall ?_ hpl
  refine thn (hkw.run pos pins s σ H _ I h) fun ws s2 ⟨zs, H2, I2, rz, hz, q2⟩ => ⟨I2.kIn, ?_⟩
  rw [hks]
  have rg := hrel rz
  refine wpAny_call (codeAny_mono (F.go X.A X.stack s2 H2 ⟨[], ks.zip ws⟩ (g ws) (g zs) Q E hgd hr I2.env0 (hb s2 ws I2.kIn (rz.length.symm.trans hz)) rg q2) fun z s3 hq => ?_)
  cases z with
  | error er => exact hx pins σ H2 s2 er s3 I2 hq
  | ok fl =>
    cases fl with
    | ret u => exact I2.after hq
    | next => exact hq.elim
    | brk => exact hq.elim
    | cont => exact hq.elim
end
end L2.Hx

/-! Data of any depth, dicts too, over a part G of the tracked heap; repr of data. -/
namespace L2.Hx
open PySem PySem.Spec PyProof.Rows

def keyD : Key → PyData
  | .inl i => .int i
  | .inr x => .str x
mutual
inductive Da (K : PySem.W.Frag) (G : Hp) : V → PyData → Prop
  | non : Da K G .non .none
  | bl (b : Bool) : Da K G (.bl b) (.bool b)
  | int (i : Int) : Da K G (.int i) (.int i)
  | str (x : Str) : Da K G (.str x) (.str x)
  | lst {a : Addr} {xs : List V} {ds : List PyData} : G a = some (.lst xs) → DaAll K G xs ds → Da K G (.ref a) (.list ds)
  | tup {a : Addr} {xs : List V} {ds : List PyData} : SqT K G a xs → DaAll K G xs ds → Da K G (.ref a) (.tuple ds)
  | dct {a : Addr} {kvs : List (Key × V)} {ds : List PyData} : G a = some (.dK kvs) → DaAll K G (kvs.map (·.2)) ds → Da K G (.ref a) (.dict ((kvs.map fun p => keyD p.1).zip ds))
inductive DaAll (K : PySem.W.Frag) (G : Hp) : List V → List PyData → Prop
  | nil : DaAll K G [] []
  | cons {v : V} {vs : List V} {d : PyData} {ds : List PyData} : Da K G v d → DaAll K G vs ds → DaAll K G (v :: vs) (d :: ds)
end
section
variable {K : PySem.W.Frag} {G G' : Hp}
theorem DaAll.length : ∀ {vs : List V} {ds : List PyData}, DaAll K G vs ds → vs.length = ds.length
  | _, _, .nil => rfl
  | _, _, .cons _ t => by rw [List.length_cons, List.length_cons, DaAll.length t]
theorem sameT {a : Addr} {xs : List V} (e : Same G G') (h : SqT K G a xs) : SqT K G' a xs := by
  rcases h with (q | ⟨o, q⟩) | q
  · exact .inl (.inl (e _ _ q))
  · exact .inl (.inr ⟨o, e _ _ q⟩)
  · exact .inr q
mutual
theorem Da.mono (e : Same G G') : ∀ {v : V} {d : PyData}, Da K G v d → Da K G' v d
  | _, _, .non => .non
  | _, _, .bl b => .bl b
  | _, _, .int i => .int i
  | _, _, .str x => .str x
  | _, _, .lst h t => .lst (e _ _ h) (DaAll.mono e t)
  | _, _, .tup h t => .tup (sameT e h) (DaAll.mono e t)
  | _, _, .dct h t => .dct (e _ _ h) (DaAll.mono e t)
theorem DaAll.mono (e : Same G G') : ∀ {vs : List V} {ds : List PyData}, DaAll K G vs ds → DaAll K G' vs ds
  | _, _, .nil => .nil
  | _, _, .cons h t => .cons (Da.mono e h) (DaAll.mono e t)
end
theorem DaAll.append : ∀ {vs ws : List V} {ds es : List PyData}, DaAll K G vs ds → DaAll K G ws es → DaAll K G (vs ++ ws) (ds ++ es)
  | _, _, _, _, .nil, s => s
  | _, _, _, _, .cons h t, s => .cons h (DaAll.append t s)
theorem DaAll.get : ∀ {vs : List V} {ds : List PyData} {i : Nat} {v : V}, DaAll K G vs ds → vs[i]? = some v → ∃ d, ds[i]? = some d ∧ Da K G v d
  | _, _, 0, _, .cons h t, e => by
    rw [List.getElem?_cons_zero] at e
    cases e
    exact ⟨_, rfl, h⟩
  | _, _, i + 1, v, .cons h t, e => by
    rw [List.getElem?_cons_succ] at e ⊢
    exact DaAll.get t e
theorem DaAll.mem {vs : List V} {ds : List PyData} {v : V} (h : DaAll K G vs ds) (m : v ∈ vs) : ∃ d, d ∈ ds ∧ Da K G v d := by
  obtain ⟨i, e⟩ := List.mem_iff_getElem?.mp m
  obtain ⟨d, e2, q⟩ := h.get e
  exact ⟨d, List.mem_of_getElem? e2, q⟩
theorem DaAll.take : ∀ {vs : List V} {ds : List PyData} (n : Nat), DaAll K G vs ds → DaAll K G (vs.take n) (ds.take n)
  | _, _, 0, _ => .nil
  | _, _, _ + 1, .nil => .nil
  | _, _, n + 1, .cons h t => .cons h (DaAll.take n t)
theorem DaAll.drop : ∀ {vs : List V} {ds : List PyData} (n : Nat), DaAll K G vs ds → DaAll K G (vs.drop n) (ds.drop n)
  | _, _, 0, h => h
  | _, _, _ + 1, .nil => .nil
  | _, _, n + 1, .cons _ t => DaAll.drop n t
theorem DaAll.rep {v : V} {d : PyData} (h : Da K G v d) : ∀ n : Nat, DaAll K G (List.replicate n v) (List.replicate n d)
  | 0 => .nil
  | n + 1 => .cons h (DaAll.rep h n)
theorem DaAll.set {v : V} {d : PyData} (h : Da K G v d) : ∀ {vs : List V} {ds : List PyData} (i : Nat), DaAll K G vs ds → DaAll K G (vs.set i v) (ds.set i d)
  | _, _, _, .nil => .nil
  | _, _, 0, .cons _ t => .cons h t
  | _, _, i + 1, .cons q t => .cons q (DaAll.set h i t)
theorem DaAll.flat {vs : List V} {ds : List PyData} (h : DaAll K G vs ds) : ∀ n : Nat, DaAll K G (List.replicate n vs).flatten (List.replicate n ds).flatten
  | 0 => .nil
  | n + 1 => by
    rw [List.replicate_succ, List.replicate_succ, List.flatten_cons, List.flatten_cons]
    exact h.append (DaAll.flat h n)
end

theorem pairs_keys {P : Program} {w : World} : ∀ {es : List DictEntry} {kvs : List (Key × V)} {vs : List (Key × Value)}, KV kvs vs → Pairs (mixKind P w) es vs →
    Vals (kvs.map fun p => kV p.1) (es.map (·.key)) ∧ Vals (kvs.map (·.2)) (es.map (·.val))
  | _, _, _, .nil, .nil => ⟨.nil, .nil⟩
  | e :: es, (k, v) :: kvs, (k', u) :: vs, .cons ⟨r1, r2⟩ t, .cons h1 h2 h3 => by
    obtain ⟨a, b⟩ := pairs_keys t h3
    refine ⟨.cons ?_ a, .cons ?_ b⟩
    · have r1 : k = k' := r1
      have h1 : keyIs k' e.key = true := h1
      subst r1
      rcases keyIs_shape h1 with ⟨i, tk, rfl, q⟩ | ⟨x, tk, rfl, q⟩
      · exact ⟨tk, q⟩
      · exact ⟨tk, q⟩
    · show RelV v e.val
      rw [h2]
      exact r2
theorem keyD_da {K : PySem.W.Frag} {G : Hp} : ∀ (ks : List Key), DaAll K G (ks.map kV) (ks.map keyD)
  | [] => .nil
  | .inl i :: r => .cons (.int i) (keyD_da r)
  | .inr x :: r => .cons (.str x) (keyD_da r)

section
variable {X : Cx} {pins : List (Addr × Obj)} {σ : St} {H G : Hp} {s : Shared}
theorem zip_fst : ∀ {as bs : List PyData}, as.length = bs.length → (as.zip bs).map (·.1) = as
  | [], _, _ => by simp
  | a :: as, b :: bs, h => by
    rw [List.zip_cons_cons, List.map_cons, zip_fst (by simpa using h)]
theorem zip_snd : ∀ {as bs : List PyData}, as.length = bs.length → (as.zip bs).map (·.2) = bs
  | [], [], _ => rfl
  | [], _ :: _, h => by simp at h
  | a :: as, [], h => by simp at h
  | a :: as, b :: bs, h => by
    rw [List.zip_cons_cons, List.map_cons, zip_snd (by simpa using h)]
/-- what stands at a dict's address -/
theorem dict_at {a : Addr} {kvs : List (Key × V)} (I : Inv X pins σ H s) (h : H a = some (.dK kvs)) : ∃ o es n, s.heap.get? a = some o ∧ o.cls = .type "dict" ∧ o.data = .dict es n ∧ (a == sysModules) = false ∧
    Vals (kvs.map fun p => kV p.1) (es.toList.map (·.key)) ∧ Vals (kvs.map (·.2)) (es.toList.map (·.val)) := by
  obtain ⟨_, hs, vs, r, o, es, ep, h1, h2, h3, _, h5, _⟩ := (show ObjOk X.prog X.w H s.heap a (.dK kvs) from I.hok a _ h)
  obtain ⟨q1, q2⟩ := pairs_keys r h5
  exact ⟨o, es, ep, h1, h2.1, h3, hs, q1, q2⟩
abbrev RkOf (X : Cx) (h : Heap) (u : Value) (d : PyData) : Prop := ∃ as bs, Reads h u d as ∧ ReadAtMost h d.depth bs ∧ ReprK X.prog X.w bs h d.depth u d.shown
abbrev RkAll (X : Cx) (h : Heap) (us : List Value) (ds : List PyData) : Prop := ∃ as bs, ReadsAll h us ds as ∧ ReadAtMost h (PyData.depthAll ds) bs ∧ ReprAllK X.prog X.w bs h (PyData.depthAll ds) us (PyData.shownAll ds)
theorem no_addr {h : Heap} {n : Nat} : ReadAtMost h n [] := fun b q => absurd q List.not_mem_nil
theorem rk_keys : ∀ (ks : List Key) (us : List Value), Vals (ks.map kV) us → PyData.showableAll (ks.map keyD) = true → (∀ t ∈ PyData.shownAll (ks.map keyD), t.length ≤ sizeLine) → RkAll X s.heap us (ks.map keyD)
  | [], _, .nil, _, _ => ⟨_, [], .nil, no_addr, .nil⟩
  | k :: ks, _, .cons r t, hs, hz => by
    rw [List.map_cons, PyData.showableAll, Bool.and_eq_true] at hs
    rw [List.map_cons] at hz ⊢
    unfold PyData.shownAll at hz
    obtain ⟨as, bs, q1, q2, q3⟩ := rk_keys ks _ t hs.2 fun z m => hz z (List.mem_cons_of_mem _ m)
    have h0 := hz _ List.mem_cons_self
    cases k with
    | inl i =>
      obtain ⟨tk, rfl⟩ := r
      exact ⟨_, bs, .cons (.int i tk) q1, q2.mono (Nat.le_max_right _ _), .cons (.of_is (ReprIs.int tk (by simpa [keyD, PyData.showable] using hs.1)) _ _ _) (q3.more_le (fun _ m => m) (Nat.le_max_right _ _))⟩
    | inr x =>
      obtain ⟨tk, rfl⟩ := r
      exact ⟨_, bs, .cons (.str x tk) q1, q2.mono (Nat.le_max_right _ _), .cons (.of_is (ReprIs.str x tk (by simpa only [keyD, PyData.shown] using h0)) _ _ _) (q3.more_le (fun _ m => m) (Nat.le_max_right _ _))⟩
/-- the entries of a dict as repr reads them -/
theorem rk_entries {es : List DictEntry} {kvs : List (Key × V)} {ds : List PyData} (vk : Vals (kvs.map fun p => kV p.1) (es.map (·.key))) (hl : kvs.length = ds.length)
    (hv : PyData.showableAll ds = true → (∀ t ∈ PyData.shownAll ds, t.length ≤ sizeLine) → RkAll X s.heap (es.map (·.val)) ds) (hs : PyData.showableKv ((kvs.map fun p => keyD p.1).zip ds) = true)
    (hz : (dictText (PyData.shownKv ((kvs.map fun p => keyD p.1).zip ds))).length ≤ sizeLine) :
    ∃ as1 as2 bs, ReadsAll s.heap (es.map (·.key)) (((kvs.map fun p => keyD p.1).zip ds).map (·.1)) as1 ∧ ReadsAll s.heap (es.map (·.val)) (((kvs.map fun p => keyD p.1).zip ds).map (·.2)) as2 ∧
      ReadAtMost s.heap (PyData.depthKv ((kvs.map fun p => keyD p.1).zip ds)) bs ∧ ReprEntriesK X.prog X.w bs s.heap (PyData.depthKv ((kvs.map fun p => keyD p.1).zip ds)) es (PyData.shownKv ((kvs.map fun p => keyD p.1).zip ds)) := by
  have hll : (kvs.map fun p => keyD p.1).length = ds.length := by rw [List.length_map]; exact hl
  generalize hkv : (kvs.map fun p => keyD p.1).zip ds = kv at hs hz ⊢
  obtain ⟨s1, s2⟩ := PyData.showableKv_split kv hs
  have e1 : kv.map (·.1) = kvs.map fun p => keyD p.1 := by rw [← hkv]; exact zip_fst hll
  have e2 : kv.map (·.2) = ds := by rw [← hkv]; exact zip_snd hll
  have ek : (kvs.map (·.1)).map kV = kvs.map fun p => kV p.1 := by rw [List.map_map]; rfl
  have ed : (kvs.map (·.1)).map keyD = kvs.map fun p => keyD p.1 := by rw [List.map_map]; rfl
  have z1 : ∀ t ∈ PyData.shownAll (kv.map (·.1)), t.length ≤ sizeLine := fun t ht => let ⟨p, hp, hl⟩ := PyData.shownKv_key_le kv t ht; Nat.le_trans hl (Nat.le_trans (dictText_mem_le hp) hz)
  have z2 : ∀ t ∈ PyData.shownAll (kv.map (·.2)), t.length ≤ sizeLine := fun t ht => let ⟨p, hp, hl⟩ := PyData.shownKv_val_le kv t ht; Nat.le_trans hl (Nat.le_trans (dictText_mem_le hp) hz)
  have m1 := PyData.depthAll_keys_le kv
  have m2 := PyData.depthAll_vals_le kv
  rw [PyData.shownKv_eq]
  rw [e1] at s1 z1 m1 ⊢
  rw [e2] at s2 z2 m2 ⊢
  rw [← ed] at s1 z1 m1 ⊢
  rw [← ek] at vk
  obtain ⟨as1, b1, r1, a1, k1⟩ := rk_keys (X := X) (s := s) _ _ vk s1 z1
  obtain ⟨as2, b2, r2, a2, k2⟩ := hv s2 z2
  exact ⟨as1, as2, b1 ++ b2, r1, r2, (a1.mono m1).append (a2.mono m2), ReprEntriesK.of_two es _ _ (k1.more_le (fun b q => List.mem_append_left _ q) m1) (k2.more_le (fun b q => List.mem_append_right _ q) m2)⟩
mutual
theorem Da.rk (I : Inv X pins σ H s) (sm : Same G H) : ∀ {d : PyData} {v : V} {u : Value}, Da X.K G v d → RelV v u → d.showable = true → d.shown.length ≤ sizeLine → RkOf X s.heap u d
  | _, _, _, .non, r, _, _ => by
    cases r
    exact ⟨_, [], .none, no_addr, by simp only [PyData.shown]; exact .of_is ReprIs.none _ _ _⟩
  | _, _, _, .bl b, r, _, _ => by
    cases r
    exact ⟨_, [], .bool b, no_addr, by simp only [PyData.shown]; exact .of_is (ReprIs.bool b) _ _ _⟩
  | _, _, _, .int i, r, hs, _ => by
    obtain ⟨t, rfl⟩ := r
    exact ⟨_, [], .int i t, no_addr, by simp only [PyData.shown]; exact .of_is (ReprIs.int t (by simpa [PyData.showable] using hs)) _ _ _⟩
  | _, _, _, .str x, r, _, hz => by
    obtain ⟨t, rfl⟩ := r
    exact ⟨_, [], .str x t, no_addr, by simp only [PyData.shown]; exact .of_is (ReprIs.str x t (by simpa only [PyData.shown] using hz)) _ _ _⟩
  | .list ds, .ref a, _, .lst h t, r, hs, hz => by
    cases r
    have hz2 : (listText (PyData.shownAll ds)).length ≤ sizeLine := by simpa only [PyData.shown] using hz
    obtain ⟨_, its, n, rv, e⟩ := (show ObjOk X.prog X.w H s.heap a (.lst _) from I.hok a _ (sm _ _ h))
    obtain ⟨as, bs, q1, q2, q3⟩ := DaAll.rk I sm t rv (by simpa [PyData.showable] using hs) fun z hz' => Nat.le_trans (listText_mem_le hz') hz2
    have rd : Reads s.heap (.ref a) (.list ds) _ := .list e rfl rfl q1
    have hna : a ∉ bs := not_mem_of_deeper rd (by simp only [PyData.depth]; omega) q2
    refine ⟨_, a :: bs, rd, ReadAtMost.cons rd (by simp only [PyData.depth]; omega) q2, ?_⟩
    simp only [PyData.depth, PyData.shown]
    cases its with
    | nil =>
      cases q1
      simp only [PyData.shownAll, listText_nil]
      exact ReprK.listEmpty e rfl rfl
    | cons y l => exact ReprK.list e rfl rfl hna (by simpa using q3.length_eq) fun i z e2 => q3.item i z (by simpa using e2)
  | .tuple ds, .ref a, _, .tup h t, r, hs, hz => by
    cases r
    have hz2 : (tupleText (PyData.shownAll ds)).length ≤ sizeLine := by simpa only [PyData.shown] using hz
    obtain ⟨its, rv, ⟨o, ho, hc, n, hd⟩, _⟩ := I.tuple (sameT sm h)
    obtain ⟨as, bs, q1, q2, q3⟩ := DaAll.rk I sm t rv (by simpa [PyData.showable] using hs) fun z hz' => Nat.le_trans (tupleText_mem_le hz') hz2
    have rd : Reads s.heap (.ref a) (.tuple ds) _ := .tuple ho hc hd q1
    have hna : a ∉ bs := not_mem_of_deeper rd (by simp only [PyData.depth]; omega) q2
    refine ⟨_, a :: bs, rd, ReadAtMost.cons rd (by simp only [PyData.depth]; omega) q2, ?_⟩
    simp only [PyData.depth, PyData.shown]
    exact ReprK.tuple ho hc hd hna q3
  | _, .ref a, _, @Da.dct _ _ _ kvs ds h t, r, hs, hz => by
    cases r
    have hz2 : (dictText (PyData.shownKv ((kvs.map fun p => keyD p.1).zip ds))).length ≤ sizeLine := by simpa only [PyData.shown] using hz
    obtain ⟨o, es, n, ho, hc, hd, hsys, vk, vv⟩ := dict_at I (sm _ _ h)
    obtain ⟨as1, as2, bs, r1, r2, a3, k3⟩ := rk_entries (X := X) (s := s) vk (by rw [← t.length, List.length_map]) (fun s2 z2 => DaAll.rk I sm t vv s2 z2) (by simpa [PyData.showable] using hs) hz2
    have rd : Reads s.heap (.ref a) (.dict ((kvs.map fun p => keyD p.1).zip ds)) _ := .dict ho hc hd r1 r2
    have hna : a ∉ bs := not_mem_of_deeper rd (by simp only [PyData.depth]; omega) a3
    refine ⟨_, a :: bs, rd, ReadAtMost.cons rd (by simp only [PyData.depth]; omega) a3, ?_⟩
    simp only [PyData.depth, PyData.shown]
    exact ReprK.dict ho hc hd hsys hna k3
theorem DaAll.rk (I : Inv X pins σ H s) (sm : Same G H) : ∀ {ds : List PyData} {vs : List V} {us : List Value}, DaAll X.K G vs ds → Vals vs us → PyData.showableAll ds = true → (∀ t ∈ PyData.shownAll ds, t.length ≤ sizeLine) → RkAll X s.heap us ds
  | _, _, _, .nil, .nil, _, _ => ⟨_, [], .nil, no_addr, .nil⟩
  | _, _, _, .cons h t, .cons r rs, hs, hz => by
    rw [PyData.showableAll, Bool.and_eq_true] at hs
    unfold PyData.shownAll at hz
    obtain ⟨as1, b1, q1, a1, k1⟩ := Da.rk I sm h r hs.1 (hz _ List.mem_cons_self)
    obtain ⟨as2, b2, q2, a2, k2⟩ := DaAll.rk I sm t rs hs.2 fun z m => hz z (List.mem_cons_of_mem _ m)
    refine ⟨_, b1 ++ b2, .cons q1 q2, (a1.mono (Nat.le_max_left _ _)).append (a2.mono (Nat.le_max_right _ _)), ?_⟩
    exact .cons ((k1.more fun b q => List.mem_append_left _ q).level_le (Nat.le_max_left _ _)) (k2.more_le (fun b q => List.mem_append_right _ q) (Nat.le_max_right _ _))
end
end

/-! ### repr(x) -/
def rRepr (K : PySem.W.Frag) : List V → Hp → VK → Prop := fun xs H Q => ∃ (v : V) (d : PyData) (G : Hp), xs = [v] ∧ Same G H ∧ Da K G v d ∧ d.showable = true ∧ d.depth ≤ 60 ∧ d.shown.length ≤ sizeLine ∧ Q (.str d.shown) H
section
variable {X : Cx}
theorem call_repr (hgd : X.A.guards = some []) (hu : X.A.units + 64 < cLine) : CallR X (.builtin "repr") (rRepr X.K) := by
  intro pins s σ H xs us Q I r h
  obtain ⟨v, d, G, rfl, sm, hd, hs, hdp, hz, q⟩ := h
  obtain ⟨u, rfl, rv⟩ := vals1 r
  have done : ∀ h' t tk, (∀ b o, s.heap.get? b = some o → h'.get? b = some o) → EP X pins σ Q (.str d.shown t) { s with heap := h', toks := tk } := fun h' t tk k => ⟨.str _, H, I.kept k, ⟨_, rfl⟩, q⟩
  cases hd with
  | non => cases rv; exact P.repr_of_none ⟨.str _, H, I.tok _, ⟨_, rfl⟩, by simpa only [PyData.shown] using q⟩
  | bl b => cases rv; exact P.repr_of_bool ⟨.str _, H, I.tok _, ⟨_, rfl⟩, by simpa only [PyData.shown] using q⟩
  | int i => obtain ⟨t, rfl⟩ := rv; exact P.repr_of_int (by simpa [PyData.showable] using hs) ⟨.str _, H, I.tok _, ⟨_, rfl⟩, by simpa only [PyData.shown] using q⟩
  | str x => obtain ⟨t, rfl⟩ := rv; exact P.repr_of_str ⟨.str _, H, I.tok _, ⟨_, rfl⟩, by simpa only [PyData.shown] using q⟩ (by simpa only [PyData.shown] using hz)
  | @lst a xs ds h t =>
    cases rv
    have hz2 : (listText (PyData.shownAll ds)).length ≤ sizeLine := by simpa only [PyData.shown] using hz
    obtain ⟨_, its, n, rw', e⟩ := (show ObjOk X.prog X.w H s.heap a (.lst _) from I.hok a _ (sm _ _ h))
    obtain ⟨as, bs, q1, q2, q3⟩ := DaAll.rk I sm t rw' (by simpa [PyData.showable] using hs) fun z hz' => Nat.le_trans (listText_mem_le hz') hz2
    have rd : Reads s.heap (.ref a) (.list ds) _ := .list e rfl rfl q1
    have hna : a ∉ bs := not_mem_of_deeper rd (by simp only [PyData.depth]; omega) q2
    simp only [PyData.depth] at hdp
    refine call_repr_slot (T := "list") (idr := "list.__repr__") (by omega) ⟨_, e, rfl⟩ F.slot_list_repr.toG ?_
    cases its with
    | nil =>
      cases q1
      refine call_list_repr_empty ⟨_, e, rfl⟩ e rfl ⟨_, _, rfl, ?_⟩
      have := done s.heap s.toks (s.toks + 1) fun _ _ k => k
      simpa only [PyData.shown, PyData.shownAll, listText_nil] using this
    | cons y l =>
      exact call_list_reprK e rfl rfl hna (by simpa using q3.length_eq) (fun i z e2 => q3.item i z (by simpa using e2)) hgd (fun b _ => Clear.nil b) (by show X.A.units + 1 + _ < _; omega) (fun _ _ k => k)
        (fun h' t tk k => ⟨_, _, rfl, by have := done h' t tk k; simpa only [PyData.shown] using this⟩) hz2
  | @tup a xs ds h t =>
    cases rv
    have hz2 : (tupleText (PyData.shownAll ds)).length ≤ sizeLine := by simpa only [PyData.shown] using hz
    obtain ⟨its, rw', ⟨o, ho, hc, n, hdd⟩, _⟩ := I.tuple (sameT sm h)
    obtain ⟨as, bs, q1, q2, q3⟩ := DaAll.rk I sm t rw' (by simpa [PyData.showable] using hs) fun z hz' => Nat.le_trans (tupleText_mem_le hz') hz2
    have rd : Reads s.heap (.ref a) (.tuple ds) _ := .tuple ho hc hdd q1
    have hna : a ∉ bs := not_mem_of_deeper rd (by simp only [PyData.depth]; omega) q2
    simp only [PyData.depth] at hdp
    exact call_repr_slot (T := "tuple") (idr := "tuple.__repr__") (by omega) ⟨_, ho, hc⟩ F.slot_tuple_repr
      (call_tuple_reprK ho hc hdd hna q3 hgd (fun b _ => Clear.nil b) (by show X.A.units + 1 + _ < _; omega) (fun _ _ k => k) (fun h' t tk k => ⟨_, _, rfl, by have := done h' t tk k; simpa only [PyData.shown] using this⟩) hz2)
  | @dct a kvs ds h t =>
    cases rv
    have hz2 : (dictText (PyData.shownKv ((kvs.map fun p => keyD p.1).zip ds))).length ≤ sizeLine := by simpa only [PyData.shown] using hz
    obtain ⟨o, es, n, ho, hc, hdd, hsys, vk, vv⟩ := dict_at I (sm _ _ h)
    obtain ⟨as1, as2, bs, r1, r2, a3, k3⟩ := rk_entries (X := X) (s := s) vk (by rw [← t.length, List.length_map]) (fun s2 z2 => DaAll.rk I sm t vv s2 z2) (by simpa [PyData.showable] using hs) hz2
    have rd : Reads s.heap (.ref a) (.dict ((kvs.map fun p => keyD p.1).zip ds)) _ := .dict ho hc hdd r1 r2
    have hna : a ∉ bs := not_mem_of_deeper rd (by simp only [PyData.depth]; omega) a3
    simp only [PyData.depth] at hdp
    exact call_repr_slot (T := "dict") (idr := "dict.__repr__") (by omega) ⟨_, ho, hc⟩ F.slot_dict_repr
      (call_dict_reprK ho hc hdd hsys hna k3 hgd (fun b _ => Clear.nil b) (by show X.A.units + 1 + _ < _; omega) (fun _ _ k => k) (fun h' t tk k => ⟨_, _, rfl, by have := done h' t tk k; simpa only [PyData.shown] using this⟩) hz2)
end
end L2.Hx

/-! Own rules: «x in words» for any data x, enumerate of a tuple. -/
namespace L2.Hx
open PySem PySem.Spec PyProof.Rows
open AutoSeq1 (wpAny_loadPart')

section
theorem str_eq_dict (b : Str) (u : Tok) (l : Addr) (es : Array DictEntry) (n : Nat) (dd : Option Addr) (sl : Array (Option Value)) :
    Meets (Builtin.«str.__eq__» ⟨[.str b u, .ref l], []⟩) (fun _ R s => s.heap.get? l = some { cls := .type "dict", dict := dd, data := .dict es n, slots := sl } ∧ R (.ok (.ret .notImplemented)) s) :=
  .of_wp fun prog w A R s h => by
    obtain ⟨hp, g, d, tk, os⟩ := s
    obtain ⟨hl, h⟩ := h
    wp_walk using wpAny_load hl
    exact ⟨_, rfl, h⟩
theorem dict_eq_str (b : Str) (u : Tok) (l : Addr) (es : Array DictEntry) (n : Nat) (dd : Option Addr) (sl : Array (Option Value)) :
    Meets (Builtin.«dict.__eq__» ⟨[.ref l, .str b u], []⟩) (fun _ R s => s.heap.get? l = some { cls := .type "dict", dict := dd, data := .dict es n, slots := sl } ∧ R (.ok (.ret .notImplemented)) s) :=
  .of_wp fun prog w A R s h => by
    obtain ⟨hp, g, d, tk, os⟩ := s
    obtain ⟨hl, h⟩ := h
    have f1 := F.sub_str_dict
    wp_walk using wpAny_load hl
    exact ⟨_, rfl, h⟩
theorem str_is_dict {A : Around} {s : Shared} {l : Addr} {es : Array DictEntry} {n : Nat} {dd : Option Addr} {sl : Array (Option Value)} (b : Str) (u : Tok) (ho : s.heap.get? l = some { cls := .type "dict", dict := dd, data := .dict es n, slots := sl }) (hu : A.units < cLine) :
    SeqAt.EqAt A s (.str b u) (.ref l) false := fun prog w E Q h => by
  unfold eqBool
  refine wpAny_holding ?_
  refine wpAny_ite_split (fun hab => absurd (eq_of_beq hab) nofun) fun _ => ?_
  refine wpAny_bind ?_
  exact SeqAt.rc_eq_decline_or (k := false) (typeIs_str s b u) ⟨_, ho, rfl⟩ (by decide) F.sub_dict_str F.slot_str_eq F.slot_dict_eq_refl
    (fun Q2 hq => call_meets F.slot_str_eq (typeIs_str s b u) F.entry_str_eq (F.args_str_eq_2 _ _) (str_eq_dict b u l es n dd sl) ⟨ho, hq⟩)
    (fun Q2 hq => call_meets F.slot_dict_eq_refl ⟨_, ho, rfl⟩ F.entry_dict_eq (F.args_dict_eq_2 _ _) (dict_eq_str b u l es n dd sl) ⟨ho, hq⟩)
    (fun Q2 hq => wpAny_of_eq (rfl : isSame (.str b u) (.ref l) = pure false) hq) (.inr hu) (wpAny_truthy_bool h)
end
/-- is the word a text among these -/
def inWs (d : PyData) (ws : List Str) : Bool := match d with
  | .str z => decide (z ∈ ws)
  | _ => false
def eqW (d : PyData) (u : Value) : Bool := match d, u with
  | .str z, .str y _ => y == z
  | _, _ => false
section
variable {X : Cx} {pins : List (Addr × Obj)} {σ : St} {H G : Hp} {s : Shared}
theorem any_eqW : ∀ {d : PyData} {ws : List Str} {us : List Value}, Vals (ws.map V.str) us → us.any (eqW d) = inWs d ws
  | d, [], _, .nil => by
    cases d <;> simp [inWs]
  | d, w :: ws, _, .cons r t => by
    obtain ⟨tk, rfl⟩ := r
    rw [List.any_cons, any_eqW (d := d) t]
    cases d <;> simp [eqW, inWs]
    rename_i z
    by_cases h : w = z
    · subst h
      simp
    · simp [h, Ne.symm h]
theorem eq_word (hu : X.A.units + 64 < cLine) (I : Inv X pins σ H s) (sm : Same G H) {v : V} {d : PyData} {x : Value} (hd : Da X.K G v d) (rx : RelV v x) (y : Str) (t : Tok) : SeqAt.EqAt X.A.in1 s (.str y t) x (eqW d (.str y t)) := by
  have hu1 : X.A.in1.units < cLine := by show X.A.units + 1 < _; omega
  cases hd with
  | non => cases rx; exact SeqAt.EqAt.str_none y t
  | bl b => cases rx; exact SeqAt.EqAt.str_bool y t b
  | int i => obtain ⟨tk, rfl⟩ := rx; exact SeqAt.EqAt.str_int y t i tk
  | str z => obtain ⟨tk, rfl⟩ := rx; exact SeqAt.EqAt.str_str y t z tk
  | @lst a xs ds h _ =>
    cases rx
    obtain ⟨_, its, n, _, e⟩ := (show ObjOk X.prog X.w H s.heap a (.lst _) from I.hok a _ (sm _ _ h))
    exact SeqAt.EqAt.str_list y t ⟨_, e, rfl, _, rfl⟩ hu1
  | @tup a xs ds h _ =>
    cases rx
    obtain ⟨its, _, p, _⟩ := I.tuple (sameT sm h)
    exact SeqAt.EqAt.str_tuple y t p hu1
  | @dct a kvs ds h _ =>
    cases rx
    obtain ⟨o, es, n, ho, hc, hdd, _⟩ := dict_at I (sm _ _ h)
    obtain ⟨c, dd, data, sl⟩ := o
    simp only at hc hdd
    subst hc hdd
    exact str_is_dict y t ho hu1
/-- x in ws, x any data, ws a list or tuple of texts -/
def rInW (K : PySem.W.Frag) (neg : Bool) : R2 := fun x y H Q => ∃ (p : Addr) (ws : List Str) (d : PyData) (G : Hp), y = .ref p ∧ (SqL K H p (ws.map V.str) ∨ SqT K H p (ws.map V.str)) ∧ Same G H ∧ Da K G x d ∧ Q (.bl (if neg then !inWs d ws else inWs d ws)) H
theorem in_words (hu : X.A.units + 64 < cLine) (I : Inv X pins σ H s) (sm : Same G H) {v : V} {d : PyData} {x : Value} (hd : Da X.K G v d) (rx : RelV v x) : ∀ {ws : List Str} {us : List Value}, Vals (ws.map V.str) us → ∀ u ∈ us, SeqAt.EqAt X.A.in1 s u x (eqW d u)
  | [], _, .nil => fun u hu => by cases hu
  | y :: ws, u :: us, .cons r t => fun u' hu' => by
    rcases List.mem_cons.mp hu' with rfl | hu'
    · obtain ⟨tk, rfl⟩ := r
      exact eq_word hu I sm hd rx y tk
    · exact in_words hu I sm hd rx t u' hu'
theorem op_inW (hu : X.A.units + 64 < cLine) : OpR X (compareOp .In) (rInW X.K false) := by
  intro pins s σ H x y v u Q I rx ry h
  obtain ⟨p, ws, d, G, rfl, hq, sm, hd, q⟩ := h
  cases ry
  have q : Q (.bl (inWs d ws)) H := q
  rcases hq with hq | hq
  · obtain ⟨its, r, pl, _⟩ := I.list hq
    refine SeqAt.in_listAt (eqW d) pl.isList (fun z hz => in_words hu I sm hd rx r z (by simpa using hz)) ⟨.bl _, H, I, rfl, ?_⟩
    rw [show its.toArray.any (eqW d) = its.any (eqW d) by simp, any_eqW r]
    exact q
  · obtain ⟨its, r, pl, _⟩ := I.tuple hq
    refine SeqAt.in_tupleAt (eqW d) pl (fun z hz => in_words hu I sm hd rx r z (by simpa using hz)) ⟨.bl _, H, I, rfl, ?_⟩
    rw [show its.toArray.any (eqW d) = its.any (eqW d) by simp, any_eqW r]
    exact q
theorem op_notInW (hu : X.A.units + 64 < cLine) : OpR X (compareOp .NotIn) (rInW X.K true) := by
  intro pins s σ H x y v u Q I rx ry h
  obtain ⟨p, ws, d, G, rfl, hq, sm, hd, q⟩ := h
  cases ry
  have q : Q (.bl (!inWs d ws)) H := q
  rcases hq with hq | hq
  · obtain ⟨its, r, pl, _⟩ := I.list hq
    refine SeqAt.notIn_listAt (eqW d) pl.isList (fun z hz => in_words hu I sm hd rx r z (by simpa using hz)) ⟨.bl _, H, I, rfl, ?_⟩
    rw [show its.toArray.any (eqW d) = its.any (eqW d) by simp, any_eqW r]
    exact q
  · obtain ⟨its, r, pl, _⟩ := I.tuple hq
    refine SeqAt.notIn_tupleAt (eqW d) pl (fun z hz => in_words hu I sm hd rx r z (by simpa using hz)) ⟨.bl _, H, I, rfl, ?_⟩
    rw [show its.toArray.any (eqW d) = its.any (eqW d) by simp, any_eqW r]
    exact q
end

/-! ### isinstance of data -/
def tyD : PyData → String
  | .none => "NoneType"
  | .bool _ => "bool"
  | .int _ => "int"
  | .str _ => "str"
  | .list _ => "list"
  | .tuple _ => "tuple"
  | .dict _ => "dict"
def isTup : PyData → Bool
  | .tuple _ => true
  | _ => false
def isStr : PyData → Bool
  | .str _ => true
  | _ => false
def rIsiD (K : PySem.W.Frag) : List V → Hp → VK → Prop := fun xs H Q => ∃ (x : V) (d : PyData) (G : Hp), Same G H ∧ Da K G x d ∧ ((xs = [x, .ty "tuple"] ∧ Q (.bl (isTup d)) H) ∨ (xs = [x, .ty "str"] ∧ Q (.bl (isStr d)) H))
section
variable {X : Cx} {pins : List (Addr × Obj)} {σ : St} {H G : Hp} {s : Shared}
theorem kit_da (I : Inv X pins σ H s) (sm : Same G H) {v : V} {d : PyData} {u : Value} (hd : Da X.K G v d) (rv : RelV v u) : ∃ P : Heap → Prop, PySem.W.KitX X.K u (.type (tyD d)) P ∧ P s.heap ∧ u ≠ .builtin "__main__.__loader__#opaque" := by
  cases hd with
  | non => cases rv; exact ⟨_, PySem.W.kitx_none, True.intro, fun z => nomatch z⟩
  | bl b => cases rv; exact ⟨_, PySem.W.kitx_bool, True.intro, fun z => nomatch z⟩
  | int i => obtain ⟨t, rfl⟩ := rv; exact ⟨_, PySem.W.kitx_int, True.intro, fun z => nomatch z⟩
  | str x => obtain ⟨t, rfl⟩ := rv; exact ⟨_, PySem.W.kitx_str, True.intro, fun z => nomatch z⟩
  | @lst a xs ds h _ =>
    cases rv
    obtain ⟨_, its, n, _, e⟩ := (show ObjOk X.prog X.w H s.heap a (.lst _) from I.hok a _ (sm _ _ h))
    exact ⟨_, PySem.W.kitx_list, ⟨_, e, rfl⟩, fun z => nomatch z⟩
  | @tup a xs ds h _ =>
    cases rv
    obtain ⟨its, _, ⟨o, ho, hc, _⟩, _⟩ := I.tuple (sameT sm h)
    exact ⟨_, PySem.W.kitx_tuple, ⟨o, ho, hc⟩, fun z => nomatch z⟩
  | @dct a kvs ds h _ =>
    cases rv
    obtain ⟨o, es, n, ho, hc, _⟩ := dict_at I (sm _ _ h)
    exact ⟨_, PySem.W.kitx_dict, ⟨o, ho, hc⟩, fun z => nomatch z⟩
theorem kitB_tup : ∀ d : PyData, kitB (tyD d) "tuple" = some (isTup d)
  | .none => by
    show kitB "NoneType" "tuple" = some false
    decide +kernel
  | .bool _ => by
    show kitB "bool" "tuple" = some false
    decide +kernel
  | .int _ => by
    show kitB "int" "tuple" = some false
    decide +kernel
  | .str _ => by
    show kitB "str" "tuple" = some false
    decide +kernel
  | .list _ => by
    show kitB "list" "tuple" = some false
    decide +kernel
  | .tuple _ => by
    show kitB "tuple" "tuple" = some true
    decide +kernel
  | .dict _ => by
    show kitB "dict" "tuple" = some false
    decide +kernel
theorem kitB_str : ∀ d : PyData, kitB (tyD d) "str" = some (isStr d)
  | .none => by
    show kitB "NoneType" "str" = some false
    decide +kernel
  | .bool _ => by
    show kitB "bool" "str" = some false
    decide +kernel
  | .int _ => by
    show kitB "int" "str" = some false
    decide +kernel
  | .str _ => by
    show kitB "str" "str" = some true
    decide +kernel
  | .list _ => by
    show kitB "list" "str" = some false
    decide +kernel
  | .tuple _ => by
    show kitB "tuple" "str" = some false
    decide +kernel
  | .dict _ => by
    show kitB "dict" "str" = some false
    decide +kernel
theorem call_isiD : CallR X (.builtin "isinstance") (rIsiD X.K) := by
  intro pins s σ H xs us Q I r h
  obtain ⟨x, d, G, sm, hd, h⟩ := h
  rcases h with ⟨rfl, q⟩ | ⟨rfl, q⟩
  · obtain ⟨u1, u2, rfl, r1, r2⟩ := vals2 r
    cases r2
    obtain ⟨P, Z, p, hx⟩ := kit_da I sm hd r1
    exact PySem.W.kia_one Z I.kIn p (kit_ty (kitB_tup d)) hx fun tk => ⟨.bl _, H, I.tok tk, rfl, q⟩
  · obtain ⟨u1, u2, rfl, r1, r2⟩ := vals2 r
    cases r2
    obtain ⟨P, Z, p, hx⟩ := kit_da I sm hd r1
    exact PySem.W.kia_one Z I.kIn p (kit_ty (kitB_str d)) hx fun tk => ⟨.bl _, H, I.tok tk, rfl, q⟩
end

/-! ### enumerate(t), t a tuple -/
section
theorem new_enum {v : Value} {o : Obj} {HB : Heap → Prop} (B : Begins v o HB) :
    Meets (Builtin.«enumerate.__new__» ⟨[.type "enumerate", v], []⟩) (fun _ R s => HB s.heap ∧
      R (.ok (.ret (.ref (s.heap.push o).objs.size))) { s with heap := (s.heap.push o).push { cls := .type "enumerate", data := .fields #[.none, .bool false, .ref s.heap.objs.size, rawInt 0, .none, .none] } }) :=
  .of_wp fun prog w A R s h => by
    obtain ⟨hp, g, d, tk, os⟩ := s
    obtain ⟨h1, h⟩ := h
    have hsub := sub_enumerate
    have q1 : ∀ {A' : Around} {E : Value → Shared → Prop} {Q : Value → Shared → Prop}, Q (.ref hp.objs.size) ⟨hp.push o, g, d, tk, os⟩ → wpAny (model prog w) A' (pyIter v) Q E ⟨hp, g, d, tk, os⟩ :=
      fun q => B.iter prog w _ _ ⟨hp, g, d, tk, os⟩ _ h1 q
    wp_walk using q1
    refine wpAny_stack_any fun st => wpAny_pure ?_
    split
    · rename_i c _ _ _ _ _
      cases (c == Value.type "enumerate")
      · wp_walk using q1
        exact ⟨_, rfl, h⟩
      · wp_walk using q1
        exact ⟨_, rfl, h⟩
    · wp_walk using q1
      exact ⟨_, rfl, h⟩
theorem enum_of {prog : Program} {w : World} {A : Around} {E : Value → Shared → Prop} {s : Shared} {v : Value} {o : Obj} {HB : Heap → Prop} {Q : Value → Shared → Prop} (B : Begins v o HB) (h1 : HB s.heap)
    (h : ∀ h', IsEnum h' (s.heap.objs.size + 1) s.heap.objs.size 0 .none → h'.get? s.heap.objs.size = some o → h'.objs.size = s.heap.objs.size + 2 →
      (∀ b u, s.heap.get? b = some u → h'.get? b = some u) → Q (.ref (s.heap.objs.size + 1)) { s with heap := h' }) :
    wpAny (model prog w) A (call (.type "enumerate") [v]) Q E s := by
  refine callType_new F.called_enumerate (by decide) (F.typeCall_enumerate_1 _) (F.newCall_enumerate_1 _) (fun obj => F.args_object_init_2 obj _) F.entry_enumerate_new (new_enum B) ⟨h1, ?_⟩
  have hz : (s.heap.push o).objs.size = s.heap.objs.size + 1 := Heap.size_push ..
  show _ ∧ _
  rw [hz]
  have he := Heap.get?_push_size (s.heap.push o) (o := { cls := .type "enumerate", data := .fields #[.none, .bool false, .ref s.heap.objs.size, rawInt 0, .none, .none] }) rfl
  rw [hz] at he
  refine ⟨⟨_, he, rfl⟩, h _ he (Heap.get?_push_of_some _ (Heap.get?_push_size _ B.free)) (by rw [Heap.size_push, hz]) fun b u q => Heap.get?_push_of_some _ (Heap.get?_push_of_some _ q)⟩
/-- the tuple's items with their places, in new pairs -/
def Iet (K : PySem.W.Frag) (a : Addr) : It :=
  ⟨fun i H => ∃ (xs : List V) (x : V), SqT K H a xs ∧ xs[i]? = some x,
    fun i H v H' => ∃ T x, v = .ref T ∧ H T = none ∧ H' = upd H T (.tup [.int (i : Nat), x]) ∧ ∀ xs, SqT K H a xs → xs[i]? = some x,
    fun i H => ∃ xs : List V, SqT K H a xs ∧ xs.length ≤ i⟩
theorem turn_enumT {P : Program} {w : World} {K : PySem.W.Frag} {elts : List Expr} {kk : Nat} {tpos : Pos} (a e it : Addr) :
    Turn P w K (.Tuple elts kk tpos) (Iet K a) [e, it] e (fun i h => (∃ old, IsEnum h e it ((i : Nat) : Int) old) ∧ h.IsTupleIter it a i ∧ e ≠ it ∧ a ≠ it ∧ a ≠ e) where
  mem := by simp
  obj := fun i h st b hb => by
    obtain ⟨⟨old, he⟩, ⟨o, ho, hc, hd⟩, _⟩ := st
    have e' : b = e ∨ b = it := by simpa using hb
    rcases e' with z | z
    · rw [z]; exact ⟨_, he, fun v q => nomatch q⟩
    · rw [z]; exact ⟨o, ho, fun v q => by rw [hd] at q; cases q⟩
  keep := fun i h h' st k => let ⟨⟨old, he⟩, hi, hne⟩ := st; ⟨⟨old, k e (by simp) _ he⟩, hi.at fun o q => k it (by simp) o q, hne⟩
  item := by
    intro X hP hw hK hc i pins s σ H E I hf st hg
    subst hP hw hK
    obtain ⟨⟨old, he⟩, hit, hne, hai, hae⟩ := st
    obtain ⟨xs, x, hq, hx⟩ := hg
    obtain ⟨its, rv, p, hz⟩ := I.tuple hq
    obtain ⟨u, hu, ru⟩ := rv.get hx
    have hel : e < s.heap.objs.size := Heap.lt_size he
    have hil : it < s.heap.objs.size := by obtain ⟨_, q, _⟩ := hit; exact Heap.lt_size q
    have hlt : i < its.toArray.size := by
      have q := (List.getElem?_eq_some_iff.mp hu).1
      simpa using q
    refine wpAny_pyNext_enum_itemD (Draws.tuple (A := X.A.in1) (I.ok.hd hc) it a hai its.toArray) he ⟨hit, p⟩ hlt hne (fun z => by
      have z : e = it ∨ e = a := by simpa using z
      rcases z with z | z
      · exact hne z
      · exact hae z.symm) fun y h' tk hP ho hst hT hsz hk => ?_
    have ey : y = u := by
      have z : its.toArray[i]? = some y := hP
      rw [List.getElem?_toArray, hu] at z
      cases z
      rfl
    subst ey
    refine ⟨_, rfl, wpAny_letOwnedTupleGo_enum (s := { s with heap := h', toks := tk + 1 }) ho fun h'' he' sb => ?_⟩
    have hT2 : h''.get? s.heap.objs.size = some { cls := .type "tuple", data := .seq #[.int i tk, y] } := (sb.2 _ (Nat.ne_of_gt hel)).trans hT
    have new : ObjOk X.prog X.w (upd H s.heap.objs.size (.tup [.int (i : Nat), x])) h'' s.heap.objs.size (.tup [.int (i : Nat), x]) :=
      ⟨by show 2 ≤ sizeLine; decide, [.int i tk, y], .cons ⟨_, rfl⟩ (.cons ru .nil), ⟨_, hT2, rfl, _, rfl⟩⟩
    have I1 : Inv X pins σ (upd H s.heap.objs.size (.tup [.int (i : Nat), x])) { s with heap := h'', toks := tk + 1 } :=
      I.turnedNew (ch := [e, it]) (fun b ob hb q => (sb.2 b (fun z => hb (by simp [z]))).trans (hk b ob (fun z => hb (by simp [z])) (fun z => hb (by simp [z])) q)) hf (Nat.le_refl _) new
    refine ⟨.ref s.heap.objs.size, _, I1, rfl, ⟨_, x, rfl, I.hok.fresh (Nat.le_refl _), rfl, fun ys hy => by rw [I.tuple_inj hy hq]; exact hx⟩, ⟨⟨y, ?_⟩, hst.1.at fun o q => (sb.2 it (Ne.symm hne)).trans q, hne, hai, hae⟩, fun b hb => ?_⟩
    · have e1 : ((i + 1 : Nat) : Int) = (i : Int) + 1 := by omega
      rw [e1]; exact he'
    · have hb' : b < s.heap.objs.size := by
        have e' : b = e ∨ b = it := by simpa using hb
        rcases e' with z | z
        · rw [z]; exact hel
        · rw [z]; exact hil
      rw [upd_ne (Nat.ne_of_lt hb')]
      exact (hf b hb).1
  done := by
    intro X hP hw hK hc i pins s σ H E I hf st hg
    subst hP hw hK
    obtain ⟨⟨old, he⟩, hit, hne, hai, hae⟩ := st
    obtain ⟨xs, hq, hx⟩ := hg
    obtain ⟨its, rv, p, hz⟩ := I.tuple hq
    obtain ⟨f0, f1, f2, f3, f4, f5⟩ := hf it (by simp)
    have hl := rv.length
    have hh : X.A.in1.handled = none := I.ok.hd hc
    have D := Draws.tuple (prog := X.prog) (w := X.w) (A := X.A.in1) hh it a hai its.toArray
    have hT : s.TypeIs (.ref e) "enumerate" := ⟨_, he, rfl⟩
    have hx' : its.toArray[i]? = none := by simp; omega
    unfold pyNext
    refine wpAny_bind (wpAny_attempt (wpAny_callSpecial?_slot (name := Str.ofString "__next__") hT F.slot_enumerate_next
      (wpAny_call_entry F.slot_enumerate_next hT F.entry_enumerate_next ?_ (F.args_enumerate_next_1 _))))
    show wpAny _ _ (field (.ref e) 2 >>= _) _ _ _
    refine wpAny_bind (wpAny_field he rfl (x := .ref it) rfl ?_)
    refine wpAny_bind (wpAny_nextOf_tuple_end hh hit p hx' fun h' x eb ht => ?_)
    obtain ⟨o, ho, hcl⟩ := ht
    refine wpAny_bind (wpAny_isInstance (T := "StopIteration") (b := true) ⟨o, ho, hcl⟩ isSubtype_stop ?_)
    exact wpAny_pure ⟨rfl, I.turned (t' := s.toks) (fun b o hb q => eb b o hb q) f0 f1 f3 f4 f5⟩
  self := fun A i s Q E st h => let ⟨⟨_, he⟩, _⟩ := st; wpAny_pyIter_enum he h
def iEnumT (K : PySem.W.Frag) (ta : TA) : TI := fun σ H R => ta σ H fun vs H1 => ∃ a xs, vs = [.ref a] ∧ SqT K H1 a xs ∧ R (Iet K a) H1
theorem pi_enumT {X : Cx} {e : Expr} {ta : TA} {p pos tpos : Pos} {elts : List Expr} {kk : Nat} (hg : Gl X "enumerate") (hm : X.mg "enumerate" = none) (ha : PA X [e] ta) (hs : starEach [e] X.env = [(false, eval e X.env)] := by rfl) :
    PI X (.Tuple elts kk tpos) (.Call (.Name "enumerate" p) [e] [] pos) (iEnumT X.K ta) := by
  refine ⟨fun pins s σ H R I h => ?_⟩
  refine Call_ (ld_blt I hg hm boot_enumerate (PyProof.Rows.callWith_type1 (thn (ha.run pos pins s σ H _ I h) fun us s1 ⟨vs, H1, I1, r1, q1⟩ => ?_) hs rfl))
  obtain ⟨a, xs, rfl, hq, q⟩ := q1
  obtain ⟨u, rfl, r⟩ := vals1 r1
  cases r
  obtain ⟨its, rv, p', hz⟩ := I1.tuple hq
  have hlt : a < s1.heap.objs.size := p'.lt
  refine enum_of (begins_tuple a its.toArray) p' fun h' he hit hsz hk => wpAny_pyIter_enum he ?_
  have I2 : Inv X pins σ H1 { s1 with heap := h' } := I1.kept (t' := s1.toks) hk
  refine ⟨s1.heap.objs.size + 1, [s1.heap.objs.size + 1, s1.heap.objs.size], _, _, H1, rfl, I2, turn_enumT a (s1.heap.objs.size + 1) s1.heap.objs.size, ⟨⟨.none, he⟩, ⟨_, hit, rfl, rfl⟩, Nat.succ_ne_self _, Nat.ne_of_lt hlt, Nat.ne_of_lt (Nat.lt_succ_of_lt hlt)⟩, fun b hb => ?_, q⟩
  have e' : b = s1.heap.objs.size + 1 ∨ b = s1.heap.objs.size := by simpa using hb
  have hle : s1.heap.objs.size ≤ b := by
    rcases e' with z | z
    · rw [z]; exact Nat.le_add_right _ _
    · rw [z]; exact Nat.le_refl _
  exact I1.fpOk hle (I1.hok.fresh hle)
/-- for i, x in enumerate(t): the tuple stands, the pair is new -/
theorem for_enumT {K : PySem.W.Frag} {a : Addr} {xs : List V} {g : TG} {tb : TS} {D : Ends} {σ : St} {H : Hp} (Pv : Nat → St → Hp → Prop) (h0 : Pv 0 σ H) (hl : ∀ i σ H, i ≤ xs.length → Pv i σ H → SqT K H a xs)
    (hs : ∀ (i : Nat) (x : V) (T : Addr) (σ : St) (H : Hp), xs[i]? = some x → Pv i σ H → H T = none → g (.ref T) σ (upd H T (.tup [.int (i : Nat), x])) fun σ2 H2 => tb { D with nx := Pv (i + 1), ct := Pv (i + 1), bk := D.nx } σ2 H2)
    (hd : ∀ σ H, Pv xs.length σ H → D.nx σ H) : ∃ W : Nat → Nat → St → Hp → Prop, (∃ m, W 0 m σ H) ∧ ∀ i m σ H, W i m σ H →
      ((Iet K a).stop i H ∧ D.nx σ H) ∨ ((Iet K a).go i H ∧ ∃ N : St → Hp → Prop, (∀ σ2 H2, N σ2 H2 → ∃ m2, m2 < m ∧ W (i + 1) m2 σ2 H2) ∧ ∀ x H2, (Iet K a).yld i H x H2 → g x σ H2 fun σ3 H3 => tb { D with nx := N, ct := N, bk := D.nx } σ3 H3) := by
  refine ⟨fun i m σ H => m = xs.length - i ∧ i ≤ xs.length ∧ Pv i σ H, ⟨xs.length, by simp, Nat.zero_le _, h0⟩, ?_⟩
  rintro i m σ H ⟨rfl, hi, p⟩
  have q := hl i σ H hi p
  rcases Nat.lt_or_ge i xs.length with hlt | hge
  · refine .inr ⟨⟨xs, xs[i], q, by simp [hlt]⟩, Pv (i + 1), fun σ2 H2 p2 => ⟨xs.length - (i + 1), by omega, rfl, hlt, p2⟩, fun x H2 y => ?_⟩
    obtain ⟨T, z, rfl, hT, rfl, y⟩ := y
    exact hs i z T σ H (y xs q) p hT
  · have e : i = xs.length := by omega
    subst e
    exact .inl ⟨⟨xs, q, Nat.le_refl _⟩, hd σ H p⟩
end
end L2.Hx

/-! Defs of the text as promises; the law's deck beside a part G of the heap that never changes. -/
namespace L2.Hx
open PySem PySem.Spec PyProof.Rows

/-- a def of the text, where it stands -/
structure Src (K : PySem.W.Frag) (mg : Str → Option Value) (x : Str) (st : Stmt) (ps : List Str) (f : Addr) (fd : FuncData) : Prop where
  fn : Fun K x x st f fd
  at_ : mg x = some (.ref f)
  bd : Binds K fd ps []
/-- a def with its promise -/
structure Df (P : Program) (w : World) (K : PySem.W.Frag) (mg : Str → Option Value) (base : Heap) (k : Nat) (x : Str) (ps : List Str) (sp : Sp) : Prop where
  ex : ∃ (f : Addr) (fd : FuncData), FnG P w K mg base CX0 k f fd ps sp ∧ mg x = some (.ref f) ∧ PySem.W.keepIn K (.ref f) = true ∧ Binds K fd ps []
section
variable {P : Program} {w : World} {K : PySem.W.Frag} {mg : Str → Option Value} {base : Heap} {k : Nat} {x : Str} {ps : List Str} {sp : Sp}
theorem Df.mk' {st : Stmt} {N : List Str} {f : Addr} {fd : FuncData} (S : Src K mg x st ps f fd) (sc : FnScope N ps (defScope st)) (hn : ∀ vs H Q E, sp vs H Q E → vs.length = ps.length)
    (hbody : ∀ (cdv : Value) (A : Around) (outer : List Env) (s : Shared) (H : Hp) (vs : List V) (Q : VK) (E : XK), (A.deeper (envOfC x (defScope st) s.heap.objs.size f cdv)).guards = some [] → Room k (A.deeper (envOfC x (defScope st) s.heap.objs.size f cdv)) → sp vs H Q E →
      ∃ t, PSs (cxOf CX0 P w K mg base N x (defScope st) f cdv A outer s H E).nox (defBody st) t ∧ t { nx := fun _ H' => Q .non H', rt := Q } (start N vs) H) : Df P w K mg base (k + 1) x ps sp :=
  ⟨f, fd, okG S.fn sc hn hbody, S.at_, S.fn.kp, S.bd⟩
/-- a def with its promise and its text -/
def DfS (P : Program) (w : World) (K : PySem.W.Frag) (mg : Str → Option Value) (base : Heap) (k : Nat) (x : Str) (st : Stmt) (ps : List Str) (sp : Sp) : Prop := ∃ (f : Addr) (fd : FuncData), FnG P w K mg base CX0 k f fd ps sp ∧ Src K mg x st ps f fd
theorem DfS.mk' {st : Stmt} {N : List Str} {f : Addr} {fd : FuncData} (S : Src K mg x st ps f fd) (sc : FnScope N ps (defScope st)) (hn : ∀ vs H Q E, sp vs H Q E → vs.length = ps.length)
    (hbody : ∀ (cdv : Value) (A : Around) (outer : List Env) (s : Shared) (H : Hp) (vs : List V) (Q : VK) (E : XK), (A.deeper (envOfC x (defScope st) s.heap.objs.size f cdv)).guards = some [] → Room k (A.deeper (envOfC x (defScope st) s.heap.objs.size f cdv)) → sp vs H Q E →
      ∃ t, PSs (cxOf CX0 P w K mg base N x (defScope st) f cdv A outer s H E).nox (defBody st) t ∧ t { nx := fun _ H' => Q .non H', rt := Q } (start N vs) H) : DfS P w K mg base (k + 1) x st ps sp := ⟨f, fd, okG S.fn sc hn hbody, S⟩
theorem DfS.df {st : Stmt} (D : DfS P w K mg base k x st ps sp) : Df P w K mg base k x ps sp := let ⟨f, fd, a, S⟩ := D; ⟨f, fd, a, S.at_, S.fn.kp, S.bd⟩
/-- .. by keywords -/
theorem DfS.kw {st : Stmt} {ks : List Str} {g : {α : Type} → List α → List α} (D : DfS P w K mg base k x st ps sp) (h : ∀ (kV doc pm : Value) (an : Option Addr) (cdv ct : Value) (ws : List Value), ws.length = ps.length → bindArgs (PySem.W.fnOf x x (defArgs st) (defBody st) (defScope st) .none kV doc pm an cdv ct) ⟨[], ks.zip ws⟩ = pure (ps.zip (g ws))) :
    ∃ f fd, FnG P w K mg base CX0 k f fd ps sp ∧ mg x = some (.ref f) ∧ PySem.W.keepIn K (.ref f) = true ∧ KwBinds K fd ps ks g := by
  obtain ⟨f, fd, a, S⟩ := D
  refine ⟨f, fd, a, S.at_, S.fn.kp, ?_⟩
  obtain ⟨oc, od, kV, doc, pm, an, cdv, ct, osl, rfl, lk, hcd⟩ := S.fn.ex
  exact fun s ws _ hl => .of_eq (h kV doc pm an cdv ct ws hl)
theorem Df.mono {j : Nat} (F : Df P w K mg base j x ps sp) (h : j ≤ k) : Df P w K mg base k x ps sp := let ⟨f, fd, a, b, c, d⟩ := F.ex; ⟨f, fd, a.mono h, b, c, d⟩
theorem Df.imp {sp' : Sp} (F : Df P w K mg base k x ps sp) (h : ∀ vs H Q E, sp' vs H Q E → sp vs H Q E) : Df P w K mg base k x ps sp' := let ⟨f, fd, a, b, c, d⟩ := F.ex; ⟨f, fd, a.imp h, b, c, d⟩
end
section
variable {X : Cx} {k j : Nat} {x : Str} {ps : List Str} {sp : Sp} {p pos : Pos} {e : Expr} {es : List Expr} {t : TA}
theorem pe_d (F : Df X.prog X.w X.K X.mg X.base k x ps sp) (hgd : X.A.guards = some []) (hr : Room j X.A) (ha : PA X (e :: es) t) (hj : k ≤ j := by first | exact Nat.le_refl _ | decide) (hg : Gl X x := by rfl)
    (hdb : (x == ("__debug__" : Str)) = false := by decide) (he : starEach (e :: es) X.env = (false, eval e X.env) :: starEach es X.env := by rfl) (hpl : (backTo pos (starEach es X.env)).any (·.1) = false := by rfl) :
    PE X (.Call (.Name x p) (e :: es) [] pos) (tCall sp [] E0 t) := by
  obtain ⟨f, fd, a, b, c, d⟩ := F.ex
  exact pe_g a hgd (hr.mono hj) hg b c d .nil pass0 ha hdb he hpl
theorem pe_d0 (F : Df X.prog X.w X.K X.mg X.base k x ps sp) (hgd : X.A.guards = some []) (hr : Room j X.A) (hj : k ≤ j := by first | exact Nat.le_refl _ | decide) (hg : Gl X x := by rfl) (hdb : (x == ("__debug__" : Str)) = false := by decide) :
    PE X (.Call (.Name x p) [] [] pos) (tCall sp [] E0 tNil) := by
  obtain ⟨f, fd, a, b, c, d⟩ := F.ex
  exact pe_g0 a hgd (hr.mono hj) hg b c d .nil pass0 hdb
end

/-! ### the deck -/
abbrev kGreat : Key := .inr "great"
abbrev kMixed : Key := .inr "mixed"
abbrev kTurns : Key := .inr "turns"
def deckD (l : Addr) (m t : Int) : List (Key × V) := [(kGreat, .ref l), (kMixed, .int m), (kTurns, .int t)]
theorem gm_ : ¬ kGreat = kMixed := of_decide_eq_false (by decide +kernel)
theorem gt_ : ¬ kGreat = kTurns := of_decide_eq_false (by decide +kernel)
theorem mt_ : ¬ kMixed = kTurns := of_decide_eq_false (by decide +kernel)
theorem deck_great (l : Addr) (m t : Int) : valV (deckD l m t) kGreat = some (.ref l) := by
  simp [valV, deckD, List.find?_cons]
theorem deck_mixed (l : Addr) (m t : Int) : valV (deckD l m t) kMixed = some (.int m) := by
  have h1 : decide (("great" : Str) = "mixed") = false := by decide +kernel
  simp [valV, deckD, List.find?_cons, h1]
theorem deck_turns (l : Addr) (m t : Int) : valV (deckD l m t) kTurns = some (.int t) := by
  have h1 : decide (("great" : Str) = "turns") = false := by decide +kernel
  have h2 : decide (("mixed" : Str) = "turns") = false := by decide +kernel
  simp [valV, deckD, List.find?_cons, h1, h2]
theorem deck_put_turns (l : Addr) (m t u : Int) : putK (deckD l m t) kTurns (.int u) = deckD l m u := by
  unfold putK deckD
  have h1 : decide (kGreat = kTurns) = false := by decide +kernel
  have h2 : decide (kMixed = kTurns) = false := by decide +kernel
  have h3 : decide (kTurns = kTurns) = true := by decide +kernel
  have n1 : ¬ kGreat = kTurns := of_decide_eq_false h1
  have n2 : ¬ kMixed = kTurns := of_decide_eq_false h2
  simp [List.any_cons, List.map_cons, n1, n2]
theorem deck_put_mixed (l : Addr) (m t u : Int) : putK (deckD l m t) kMixed (.int u) = deckD l u t := by
  unfold putK deckD
  have h1 : decide (kGreat = kMixed) = false := by decide +kernel
  have h2 : decide (kTurns = kMixed) = false := by decide +kernel
  have n1 : ¬ kGreat = kMixed := of_decide_eq_false h1
  have n2 : ¬ kTurns = kMixed := of_decide_eq_false h2
  simp [List.any_cons, List.map_cons, n1, n2]

/-- the deck stands at p with its list at l; G, which tracks neither, is a part of H -/
structure Wd (p l : Addr) (G H : Hp) : Prop where
  same : Same G H
  gp : G p = none
  gl : G l = none
  dk : ∃ m t : Int, 0 ≤ m ∧ m < 4294967291 ∧ H p = some (.dK (deckD l m t))
  ls : ∃ ns : List Int, ns.length ≤ 63 ∧ H l = some (.lst (ns.map V.int))
theorem Wd.ne {p l : Addr} {G H : Hp} (W : Wd p l G H) : p ≠ l := by
  obtain ⟨_, _, _, _, h1⟩ := W.dk
  obtain ⟨_, _, h2⟩ := W.ls
  exact ne_of h1 h2 (by intro q; cases q)
theorem Wd.np {p l : Addr} {G H : Hp} (W : Wd p l G H) {a : Addr} (h : H a = none) : a ≠ p := by
  obtain ⟨_, _, _, _, h1⟩ := W.dk
  intro e
  rw [e, h1] at h
  cases h
theorem Wd.nl {p l : Addr} {G H : Hp} (W : Wd p l G H) {a : Addr} (h : H a = none) : a ≠ l := by
  obtain ⟨_, _, h1⟩ := W.ls
  intro e
  rw [e, h1] at h
  cases h
/-- from one state to a later one: the deck may have been drawn from, G may have grown by new objects -/
structure Ext (p l : Addr) (G H G' H' : Hp) : Prop where
  w : Wd p l G' H'
  sub : Same G G'
  keep : ∀ b o, b ≠ p → b ≠ l → H b = some o → H' b = some o
  new : ∀ b o, H b = some o → G b = none → G' b = none
section
variable {p l : Addr} {G H G1 H1 G2 H2 : Hp}
theorem Ext.refl (W : Wd p l G H) : Ext p l G H G H := ⟨W, Same.refl G, fun _ _ _ _ h => h, fun _ _ _ h => h⟩
theorem Ext.trans (a : Ext p l G H G1 H1) (W : Wd p l G H) (b : Ext p l G1 H1 G2 H2) : Ext p l G H G2 H2 :=
  ⟨b.w, a.sub.trans b.sub, fun c o n1 n2 h => b.keep c o n1 n2 (a.keep c o n1 n2 h), fun c o h g => by
    have g1 := a.new c o h g
    by_cases n1 : c = p
    · subst n1; exact b.w.gp
    · by_cases n2 : c = l
      · subst n2; exact b.w.gl
      · exact b.new c o (a.keep c o n1 n2 h) g1⟩
/-- a new object, kept in G -/
theorem Wd.put (W : Wd p l G H) {a : Addr} {o : HO} (h : H a = none) : Ext p l G H (upd G a o) (upd H a o) := by
  have ga : G a = none := W.same.free h
  have np := W.np h
  have nl := W.nl h
  refine ⟨⟨fun b u q => ?_, by rw [upd_ne np.symm]; exact W.gp, by rw [upd_ne nl.symm]; exact W.gl, ?_, ?_⟩, fun b u q => ?_, fun b u _ _ q => ?_, fun b u q g => ?_⟩
  · by_cases e : b = a
    · subst e; rw [upd_same] at q ⊢; exact q
    · rw [upd_ne e] at q ⊢; exact W.same b u q
  · obtain ⟨m, t, m0, m1, e⟩ := W.dk
    exact ⟨m, t, m0, m1, by rw [upd_ne np.symm]; exact e⟩
  · obtain ⟨ns, z, e⟩ := W.ls
    exact ⟨ns, z, by rw [upd_ne nl.symm]; exact e⟩
  · rw [upd_ne (ne_of_none q ga)]; exact q
  · rw [upd_ne (ne_of_none q h)]; exact q
  · rw [upd_ne (ne_of_none q h)]; exact g
/-- a new object, not kept in G -/
theorem Wd.tmp (W : Wd p l G H) {a : Addr} {o : HO} (h : H a = none) : Ext p l G H G (upd H a o) := by
  have ga : G a = none := W.same.free h
  have np := W.np h
  have nl := W.nl h
  refine ⟨⟨fun b u q => ?_, W.gp, W.gl, ?_, ?_⟩, Same.refl G, fun b u _ _ q => ?_, fun b u q g => g⟩
  · rw [upd_ne (ne_of_none q ga)]; exact W.same b u q
  · obtain ⟨m, t, m0, m1, e⟩ := W.dk
    exact ⟨m, t, m0, m1, by rw [upd_ne np.symm]; exact e⟩
  · obtain ⟨ns, z, e⟩ := W.ls
    exact ⟨ns, z, by rw [upd_ne nl.symm]; exact e⟩
  · rw [upd_ne (ne_of_none q h)]; exact q
/-- an object of one's own, not in G, is changed -/
theorem Wd.own (W : Wd p l G H) {a : Addr} {o : HO} (hp : a ≠ p) (hl : a ≠ l) (hg : G a = none) : Wd p l G (upd H a o) := by
  refine ⟨fun b u q => ?_, W.gp, W.gl, ?_, ?_⟩
  · rw [upd_ne (ne_of_none q hg)]; exact W.same b u q
  · obtain ⟨m, t, m0, m1, e⟩ := W.dk
    exact ⟨m, t, m0, m1, by rw [upd_ne hp.symm]; exact e⟩
  · obtain ⟨ns, z, e⟩ := W.ls
    exact ⟨ns, z, by rw [upd_ne hl.symm]; exact e⟩
/-- an object of one's own is kept from now on -/
theorem Wd.hold (W : Wd p l G H) {a : Addr} {o : HO} (hp : a ≠ p) (hl : a ≠ l) (hg : G a = none) (h : H a = some o) : Wd p l (upd G a o) H ∧ Same G (upd G a o) := by
  refine ⟨⟨fun b u q => ?_, by rw [upd_ne hp.symm]; exact W.gp, by rw [upd_ne hl.symm]; exact W.gl, W.dk, W.ls⟩, fun b u q => ?_⟩
  · by_cases e : b = a
    · subst e; rw [upd_same] at q; rw [← q]; exact h
    · rw [upd_ne e] at q; exact W.same b u q
  · rw [upd_ne (ne_of_none q hg)]; exact q
end
end L2.Hx

/-! How long the text of data can be. -/
namespace L2.Hx
open PySem PySem.Spec PyProof.Rows
mutual
def okB : PyData → Bool
  | .none | .bool _ => true
  | .int i => decide (i.natAbs.log2 < 1920)
  | .str x => x.cps.toList.all fun c => decide (c < 1114112)
  | .list xs | .tuple xs => okAll xs
  | .dict kvs => okKv kvs
def okAll : List PyData → Bool
  | [] => true
  | x :: xs => okB x && okAll xs
def okKv : List (PyData × PyData) → Bool
  | [] => true
  | (k, v) :: r => okB k && okB v && okKv r
end
mutual
/-- no less than the signs of its text -/
def siz : PyData → Nat
  | .none | .bool _ => 5
  | .int _ => 1921
  | .str x => 10 * x.length + 2
  | .list xs | .tuple xs => sizAll xs + 3
  | .dict kvs => sizKv kvs + 2
def sizAll : List PyData → Nat
  | [] => 0
  | x :: xs => siz x + 2 + sizAll xs
def sizKv : List (PyData × PyData) → Nat
  | [] => 0
  | (k, v) :: r => siz k + siz v + 4 + sizKv r
end
theorem okAll_of : ∀ {xs : List PyData}, (∀ x ∈ xs, okB x = true) → okAll xs = true
  | [], _ => rfl
  | x :: xs, h => by
    rw [okAll, h x List.mem_cons_self, okAll_of fun y m => h y (List.mem_cons_of_mem _ m)]
    rfl
theorem sizAll_le {n : Nat} : ∀ {xs : List PyData}, (∀ x ∈ xs, siz x ≤ n) → sizAll xs ≤ (n + 2) * xs.length
  | [], _ => by simp [sizAll]
  | x :: xs, h => by
    have h1 := h x List.mem_cons_self
    have h2 := sizAll_le fun y m => h y (List.mem_cons_of_mem x m)
    rw [sizAll, List.length_cons, Nat.mul_add, Nat.mul_one]
    omega
theorem depthAll_le {n : Nat} : ∀ {xs : List PyData}, (∀ x ∈ xs, x.depth ≤ n) → PyData.depthAll xs ≤ n
  | [], _ => by simp [PyData.depthAll]
  | x :: xs, h => by
    have h1 := h x List.mem_cons_self
    have h2 := depthAll_le fun y m => h y (List.mem_cons_of_mem x m)
    rw [PyData.depthAll]
    omega
theorem textFrom0 (ts : List Str) (acc : Str) : (textFrom 0 acc ts).length ≤ acc.length + piled ts := by
  have h := textFrom_len ts 0 acc
  cases ts with
  | nil => exact Nat.le_add_right _ _
  | cons t r =>
    show (textFrom 1 (acc ++ t) r).length ≤ _
    rw [textFrom_length_pos r 1 (acc ++ t) Nat.one_pos, strLen_append, piled_cons]
    omega
theorem listText_le (ts : List Str) : (listText ts).length ≤ piled ts + 2 := by
  have h := textFrom0 ts "["
  unfold listText
  rw [strLen_append]
  have e1 : (("[" : Str)).length = 1 := rfl
  have e2 : (("]" : Str)).length = 1 := rfl
  omega
theorem dictText_le (ts : List Str) : (dictText ts).length ≤ piled ts + 2 := by
  have e1 : (("{" : Str)).length = 1 := rfl
  have e2 : (("}" : Str)).length = 1 := rfl
  unfold dictText
  rw [strLen_append, strLen_append]
  by_cases h : ts = []
  · subst h
    decide +kernel
  · have := join_length_add ts h
    omega
theorem int_len {i : Int} (h : i.natAbs.log2 < 1920) : (Str.ofString (toString i)).length ≤ 1921 := by
  have e := int_text_length_le (k := 1920) (by decide) h
  rw [PySem.ofString_length]
  omega
mutual
theorem ok_show : ∀ {d : PyData}, okB d = true → d.showable = true ∧ d.shown.length ≤ siz d
  | .none, _ => ⟨rfl, by simp only [PyData.shown, siz]; decide⟩
  | .bool b, _ => ⟨rfl, by simp only [PyData.shown, siz]; cases b <;> decide⟩
  | .int i, h => ⟨by simpa [PyData.showable, okB] using h, by simp only [PyData.shown, siz]; exact int_len (by simpa [okB] using h)⟩
  | .str x, h => ⟨rfl, by
      simp only [PyData.shown, siz]
      rw [okB, List.all_eq_true] at h
      exact StrLaws.reprText_len x fun c m => Nat.lt_trans (of_decide_eq_true (h c m)) (by decide)⟩
  | .list xs, h => by
    obtain ⟨a, b⟩ := ok_showAll (xs := xs) (by simpa [okB] using h)
    refine ⟨by simpa [PyData.showable] using a, ?_⟩
    simp only [PyData.shown, siz]
    exact Nat.le_trans (listText_le _) (by omega)
  | .tuple xs, h => by
    obtain ⟨a, b⟩ := ok_showAll (xs := xs) (by simpa [okB] using h)
    refine ⟨by simpa [PyData.showable] using a, ?_⟩
    simp only [PyData.shown, siz]
    exact Nat.le_trans (fmt_text _) (by omega)
  | .dict kvs, h => by
    obtain ⟨a, b⟩ := ok_showKv (kvs := kvs) (by simpa [okB] using h)
    refine ⟨by simpa [PyData.showable] using a, ?_⟩
    simp only [PyData.shown, siz]
    exact Nat.le_trans (dictText_le _) (by omega)
theorem ok_showAll : ∀ {xs : List PyData}, okAll xs = true → PyData.showableAll xs = true ∧ piled (PyData.shownAll xs) ≤ sizAll xs
  | [], _ => ⟨rfl, by simp [PyData.shownAll, piled_nil]⟩
  | x :: xs, h => by
    rw [okAll, Bool.and_eq_true] at h
    obtain ⟨a, b⟩ := ok_show h.1
    obtain ⟨c, d⟩ := ok_showAll h.2
    refine ⟨by rw [PyData.showableAll, a, c]; rfl, ?_⟩
    rw [PyData.shownAll, piled_cons, sizAll]
    omega
theorem ok_showKv : ∀ {kvs : List (PyData × PyData)}, okKv kvs = true → PyData.showableKv kvs = true ∧ piled (PyData.shownKv kvs) ≤ sizKv kvs
  | [], _ => ⟨rfl, by simp [PyData.shownKv, piled_nil]⟩
  | (k, v) :: r, h => by
    rw [okKv, Bool.and_eq_true, Bool.and_eq_true] at h
    obtain ⟨a, b⟩ := ok_show h.1.1
    obtain ⟨a2, b2⟩ := ok_show h.1.2
    obtain ⟨c, d⟩ := ok_showKv h.2
    refine ⟨by rw [PyData.showableKv, a, a2, c]; rfl, ?_⟩
    rw [PyData.shownKv, piled_cons, sizKv, strLen_append, strLen_append]
    have e1 : ((": " : Str)).length = 2 := rfl
    omega
end
/-- data that repr can tell: at most k deep, of a text of at most n signs -/
structure Okd (k n : Nat) (d : PyData) : Prop where
  ok : okB d = true
  dp : d.depth ≤ k
  sz : siz d ≤ n
theorem Okd.mono {k n k2 n2 : Nat} {d : PyData} (h : Okd k n d) (hk : k ≤ k2 := by decide) (hn : n ≤ n2 := by decide) : Okd k2 n2 d := ⟨h.ok, Nat.le_trans h.dp hk, Nat.le_trans h.sz hn⟩
theorem Okd.tup {k n m N : Nat} {ds : List PyData} (h : ∀ d ∈ ds, Okd k n d) (hl : ds.length ≤ m) (hN : (n + 2) * m + 3 ≤ N := by decide) : Okd (k + 1) N (.tuple ds) := by
  refine ⟨okAll_of fun d hd => (h d hd).ok, ?_, ?_⟩
  · have := depthAll_le fun d hd => (h d hd).dp
    simp only [PyData.depth]
    omega
  · have h1 := sizAll_le fun d hd => (h d hd).sz
    have h2 : (n + 2) * ds.length ≤ (n + 2) * m := Nat.mul_le_mul_left _ hl
    show sizAll ds + 3 ≤ N
    omega
theorem Okd.list {k n m N : Nat} {ds : List PyData} (h : ∀ d ∈ ds, Okd k n d) (hl : ds.length ≤ m) (hN : (n + 2) * m + 3 ≤ N := by decide) : Okd (k + 1) N (.list ds) := by
  have a := Okd.tup h hl hN
  exact ⟨a.ok, a.dp, a.sz⟩
theorem Okd.kids {k n : Nat} {ds : List PyData} (h : Okd (k + 1) n (.tuple ds)) : ∀ d ∈ ds, Okd k n d := by
  have h1 : okAll ds = true := h.ok
  have h2 : PyData.depthAll ds ≤ k := by
    have := h.dp
    simp only [PyData.depth] at this
    omega
  have h3 : sizAll ds ≤ n := by
    have := h.sz
    rw [siz] at this
    omega
  clear h
  induction ds with
  | nil => intro d hd; cases hd
  | cons x xs ih =>
    rw [okAll, Bool.and_eq_true] at h1
    rw [PyData.depthAll] at h2
    rw [sizAll] at h3
    intro d hd
    rcases List.mem_cons.mp hd with rfl | hd
    · exact ⟨h1.1, by omega, by omega⟩
    · exact ih h1.2 (by omega) (by omega) d hd
theorem Okd.shown {k n : Nat} {d : PyData} (h : Okd k n d) (hk : k ≤ 60) (hn : n ≤ sizeLine) : d.showable = true ∧ d.depth ≤ 60 ∧ d.shown.length ≤ sizeLine :=
  let ⟨a, b⟩ := ok_show h.ok
  ⟨a, Nat.le_trans h.dp hk, Nat.le_trans b (Nat.le_trans h.sz hn)⟩
end L2.Hx

/-! What a saying is, twice: as the program looks, and as the law does. -/
namespace L2.Hx
open PySem PySem.Spec PyProof.Rows
def w_WORDS : List Str := ["nil", "result", "fun", "head", "foot", "with", "var", "if", "else", "while", "keep", "new", "free", "any", "cell", "list", "empty", "is", "isnt"]
def w_LOOK_WORDS : List Str := ["is", "isnt"]
def w_PART_WORDS : List Str := ["cell", "list"]
def w_nr : List Str := ["nil", "result"]
def abc : List Nat := ("abcdefghijklmnopqrstuvwxyz" : Str).cps.toList
def letters (z : Str) : Bool := z.cps.toList.all fun c => decide (c ∈ abc)
def lenOk (z : Str) : Bool := decide (1 ≤ (z.length : Int)) && decide ((z.length : Int) ≤ 8)
def nameP (d : PyData) : Bool := match d with
  | .str z => lenOk z && (!decide (z ∈ w_WORDS) && letters z)
  | _ => false
def termP (d : PyData) : Bool := inWs d w_nr || nameP d
def termL (d : PyData) : Bool := match d with
  | .str z => lenOk z && (letters z && (decide (z ∈ w_nr) || !decide (z ∈ w_WORDS)))
  | _ => false
theorem term_eq (d : PyData) : termP d = termL d := by
  cases d with
  | str z =>
    by_cases h : z ∈ w_nr
    · rcases List.mem_cons.mp h with e | h2
      · subst e
        decide +kernel
      · rcases List.mem_cons.mp h2 with e | h3
        · subst e
          decide +kernel
        · cases h3
    · have e1 : decide (z ∈ w_nr) = false := decide_eq_false h
      show (decide (z ∈ w_nr) || (lenOk z && (!decide (z ∈ w_WORDS) && letters z))) = (lenOk z && (letters z && (decide (z ∈ w_nr) || !decide (z ∈ w_WORDS))))
      rw [e1, Bool.false_or, Bool.false_or]
      cases lenOk z <;> cases letters z <;> cases decide (z ∈ w_WORDS) <;> rfl
  | _ => rfl
def rowD (ws : List Str) (d : PyData) : Bool := match d with
  | .tuple [a, b, c] => inWs a ws && (termL b && termL c)
  | _ => false
def rowsD (ws : List Str) (most : Int) (d : PyData) : Bool := match d with
  | .tuple ds => decide ((ds.length : Int) ≤ most) && ds.all (rowD ws)
  | _ => false
def clauseD (d : PyData) : Bool := match d with
  | .tuple [a, b] => rowsD w_LOOK_WORDS 30 a && rowsD w_PART_WORDS 8 b
  | _ => false
/-- from the i-th item on -/
def dueFrom (i : Nat) : List PyData → PyData
  | [] => .none
  | d :: ds => if clauseD d then dueFrom (i + 1) ds else .tuple [.str "clause", .int i]
def dueD (d : PyData) : PyData := match d with
  | .tuple ds => if 1 ≤ ds.length ∧ ds.length ≤ 64 then dueFrom 0 ds else .str "form"
  | _ => .str "form"
theorem dueFrom_ok : ∀ (ds : List PyData) (i : Nat), (∀ d ∈ ds, clauseD d = true) → dueFrom i ds = .none
  | [], _, _ => rfl
  | d :: ds, i, h => by
    rw [dueFrom, if_pos (h d List.mem_cons_self)]
    exact dueFrom_ok ds (i + 1) fun e m => h e (List.mem_cons_of_mem _ m)
theorem dueFrom_okd : ∀ (ds : List PyData) (i : Nat), i + ds.length ≤ 100 → Okd 1 5000 (dueFrom i ds)
  | [], i, _ => ⟨rfl, by simp [dueFrom, PyData.depth], by show 5 ≤ 5000; decide⟩
  | d :: ds, i, h => by
    rw [List.length_cons] at h
    rw [dueFrom]
    split
    · exact dueFrom_okd ds (i + 1) (by omega)
    · have h1 : okB (.int (i : Int)) = true := by
        rw [okB]
        refine decide_eq_true ?_
        have h7 : (i : Int).natAbs < 2 ^ 7 := by omega
        exact Nat.lt_trans (PySem.Flt.log2_lt_of (by decide) h7) (by decide)
      have h2 : okB (.str "clause") = true := by decide +kernel
      refine ⟨by rw [okB, okAll, okAll, okAll, h1, h2]; rfl, by simp [PyData.depth, PyData.depthAll], ?_⟩
      show siz (.str "clause") + 2 + (1921 + 2 + 0) + 3 ≤ 5000
      have : siz (.str "clause") = 62 := by decide +kernel
      omega
theorem due_okd (d : PyData) : Okd 1 5000 (dueD d) := by
  have hf : Okd 1 5000 (.str "form") := ⟨by decide +kernel, by simp [PyData.depth], by decide +kernel⟩
  cases d with
  | tuple ds =>
    show Okd 1 5000 (if 1 ≤ ds.length ∧ ds.length ≤ 64 then dueFrom 0 ds else .str "form")
    split
    · exact dueFrom_okd ds 0 (by omega)
    · exact hf
  | _ => exact hf
/-- the size of an item -/
theorem siz_kid {d : PyData} : ∀ {ds : List PyData}, d ∈ ds → siz d ≤ siz (.tuple ds) := by
  intro ds h
  rw [siz]
  induction ds with
  | nil => cases h
  | cons x xs ih =>
    rw [sizAll]
    rcases List.mem_cons.mp h with rfl | h
    · omega
    · have := ih h
      omega
/-- data that the looks take -/
structure Fit (d : PyData) : Prop where
  ok : okB d = true
  sz : siz d ≤ sizeLine
theorem okAll_mem {d : PyData} : ∀ {ds : List PyData}, okAll ds = true → d ∈ ds → okB d = true
  | x :: xs, h, m => by
    rw [okAll, Bool.and_eq_true] at h
    rcases List.mem_cons.mp m with rfl | m
    · exact h.1
    · exact okAll_mem h.2 m
theorem Fit.kid {d : PyData} {ds : List PyData} (h : Fit (.tuple ds)) (m : d ∈ ds) : Fit d :=
  ⟨okAll_mem (show okAll ds = true from h.ok) m, Nat.le_trans (siz_kid m) h.sz⟩
theorem siz_len : ∀ ds : List PyData, ds.length ≤ siz (.tuple ds) := by
  intro ds
  rw [siz]
  induction ds with
  | nil => simp
  | cons x xs ih =>
    rw [sizAll, List.length_cons]
    omega
theorem siz_str (z : Str) : z.length ≤ siz (.str z) := by
  rw [siz]
  omega
end L2.Hx

/-! Expressions that lay data: what they come to, by its size. -/
namespace L2.Hx
open PySem PySem.Spec PyProof.Rows

/-! ### t != () -/
def rNeNil (K : PySem.W.Frag) : R2 := fun x y H Q => ∃ a b xs, x = .ref a ∧ y = .ref b ∧ SqT K H a xs ∧ SqT K H b [] ∧ Q (.bl (!xs.isEmpty)) H
theorem op_neNil {X : Cx} (hu : X.A.units + 64 < cLine) : OpR X (compareOp .NotEq) (rNeNil X.K) := by
  intro pins s σ H x y v u Q I rx ry h
  obtain ⟨a, b, xs, rfl, rfl, ha, hb, q⟩ := h
  cases rx
  cases ry
  obtain ⟨its, r1, p1, _⟩ := I.tuple ha
  obtain ⟨its2, r2, p2, _⟩ := I.tuple hb
  cases r2
  refine SeqAt.RcNeAt.tuples (e := fun _ => true) p1 p2 (by omega) (fun j h1 h2 => absurd h2 (by simp)) _ _ _ _ ⟨.bl _, H, I, rfl, ?_⟩
  have hl := r1.length
  have e : (!((List.range (min its.toArray.size ([] : List Value).toArray.size)).all (fun _ => true) && its.toArray.size == ([] : List Value).toArray.size)) = !xs.isEmpty := by
    cases xs with
    | nil =>
      cases r1
      rfl
    | cons x xs =>
      cases r1
      rfl
  rw [e]
  exact q

/-- all m of at most these depths and sizes -/
def All (k n m : Nat) (ds : List PyData) : Prop := ds.length = m ∧ ∀ d ∈ ds, Okd k n d
/-- a tuple of at most m such -/
def Tp (k n m : Nat) (d : PyData) : Prop := ∃ ds, d = .tuple ds ∧ ds.length ≤ m ∧ ∀ x ∈ ds, Okd k n x
/-- a list of at most m such, not empty -/
def Ls (k n m : Nat) (d : PyData) : Prop := ∃ ds, d = .list ds ∧ 0 < ds.length ∧ ds.length ≤ m ∧ ∀ x ∈ ds, Okd k n x
theorem Tp.okd {k n m N : Nat} {d : PyData} (h : Tp k n m d) (hN : (n + 2) * m + 3 ≤ N := by decide) : Okd (k + 1) N d := by
  obtain ⟨ds, rfl, hl, h⟩ := h
  exact Okd.tup h hl hN
theorem Ls.okd {k n m N : Nat} {d : PyData} (h : Ls k n m d) (hN : (n + 2) * m + 3 ≤ N := by decide) : Okd (k + 1) N d := by
  obtain ⟨ds, rfl, _, hl, h⟩ := h
  exact Okd.list h hl hN
theorem Tp.mono {k n m k2 n2 m2 : Nat} {d : PyData} (h : Tp k n m d) (hk : k ≤ k2 := by decide) (hn : n ≤ n2 := by decide) (hm : m ≤ m2 := by decide) : Tp k2 n2 m2 d := by
  obtain ⟨ds, rfl, hl, h⟩ := h
  exact ⟨ds, rfl, Nat.le_trans hl hm, fun x m => (h x m).mono hk hn⟩
theorem Okd.tp {k n : Nat} {ds : List PyData} (h : Okd (k + 1) n (.tuple ds)) {m : Nat} (hl : ds.length ≤ m) : Tp k n m (.tuple ds) := ⟨ds, rfl, hl, h.kids⟩

section
variable (K : PySem.W.Frag) (p l : Addr) (σ : St) (G : Hp)
/-- whatever the heap, what comes is such data; the deck may be drawn from -/
def TD (t : TE) (φ : PyData → Prop) : Prop := ∀ (G1 H : Hp) (Q : VK), Wd p l G1 H → Same G G1 → (∀ v d G2 H2, Ext p l G1 H G2 H2 → Da K G2 v d → φ d → Q v H2) → t σ H Q
def TDs (t : TA) (Φ : List PyData → Prop) : Prop := ∀ (G1 H : Hp) (Q : List V → Hp → Prop), Wd p l G1 H → Same G G1 → (∀ vs ds G2 H2, Ext p l G1 H G2 H2 → DaAll K G2 vs ds → Φ ds → Q vs H2) → t σ H Q
end
/-- a slice's end -/
def TPt (σ : St) (t : TO) : Prop := ∀ (H : Hp) (Q : Option Int → Hp → Prop), (∀ o, Q o H) → t σ H Q
section
variable {K : PySem.W.Frag} {p l : Addr} {σ : St} {G : Hp} {t ta tb : TE} {tr : TA} {φ ψ : PyData → Prop} {Φ : List PyData → Prop} {k n m : Nat}
theorem TD.imp (h : TD K p l σ G t φ) (hi : ∀ d, φ d → ψ d) : TD K p l σ G t ψ := fun G1 H Q W s k => h G1 H Q W s fun v d G2 H2 e da f => k v d G2 H2 e da (hi d f)
theorem TD.run {H : Hp} {Q : VK} (h : TD K p l σ G t φ) (W : Wd p l G H) (k : ∀ v d G2 H2, Ext p l G H G2 H2 → Da K G2 v d → φ d → Q v H2) : t σ H Q := h G H Q W (Same.refl G) k
theorem TD.asg {H : Hp} {D : Ends} {i : Nat} (h : TD K p l σ G t φ) (W : Wd p l G H) (k : ∀ v d G2 H2, Ext p l G H G2 H2 → Da K G2 v d → φ d → D.nx (σ.set i (some v)) H2) : tAsg t (gName i) D σ H := h G H _ W (Same.refl G) k
theorem TD.asgG {H : Hp} {D : Ends} {g : TG} (h : TD K p l σ G t φ) (W : Wd p l G H) (k : ∀ v d G2 H2, Ext p l G H G2 H2 → Da K G2 v d → φ d → g v σ H2 D.nx) : tAsg t g D σ H := h G H _ W (Same.refl G) k
theorem TD.ret {H : Hp} {D : Ends} (h : TD K p l σ G t φ) (W : Wd p l G H) (k : ∀ v d G2 H2, Ext p l G H G2 H2 → Da K G2 v d → φ d → D.rt v H2) : tRet t D σ H := h G H _ W (Same.refl G) k
theorem TD.flat {v : V} {d : PyData} (hd : ∀ G, Da K G v d) (hf : φ d) : TD K p l σ G (tC v) φ := fun G1 H Q W _ k => k _ _ _ _ (Ext.refl W) (hd _) hf
theorem td_str {x : Str} (h : okB (.str x) = true := by decide +kernel) (hn : siz (.str x) ≤ n := by decide +kernel) : TD K p l σ G (tC (.str x)) (Okd k n) := .flat (fun _ => .str x) ⟨h, Nat.zero_le _, hn⟩
theorem td_int {i : Int} (h : i.natAbs.log2 < 1920 := by decide) (hn : 1921 ≤ n := by decide) : TD K p l σ G (tC (.int i)) (Okd k n) := .flat (fun _ => .int i) ⟨decide_eq_true h, Nat.zero_le _, hn⟩
theorem td_non (hn : 5 ≤ n := by decide) : TD K p l σ G (tC .non) (Okd k n) := .flat (fun _ => .non) ⟨rfl, Nat.zero_le _, hn⟩
theorem td_bl {b : Bool} (hn : 5 ≤ n := by decide) : TD K p l σ G (tC (.bl b)) (Okd k n) := .flat (fun _ => .bl b) ⟨rfl, Nat.zero_le _, hn⟩
theorem td_var {i : Nat} {v : V} {d : PyData} (hi : σ[i]? = some (some v)) (hd : Da K G v d) (hf : φ d) : TD K p l σ G (tVar i) φ := fun G1 H Q W s k => ⟨v, hi, k _ _ _ _ (Ext.refl W) (hd.mono s) hf⟩
theorem tds_nil : TDs K p l σ G tNil (All k n 0) := fun G1 H Q W _ k => k _ _ _ _ (Ext.refl W) .nil ⟨rfl, fun d h => absurd h List.not_mem_nil⟩
theorem tds_cons (h : TD K p l σ G t (Okd k n)) (hr : TDs K p l σ G tr (All k n m)) : TDs K p l σ G (tCons t tr) (All k n (m + 1)) := fun G1 H Q W s k =>
  h G1 H _ W s fun v d G2 H2 e da f => hr G2 H2 _ e.w (s.trans e.sub) fun vs ds G3 H3 e3 das f3 => k _ _ _ _ (e.trans W e3) (.cons (da.mono e3.sub) das)
    ⟨by rw [List.length_cons, f3.1], fun x mx => by
      rcases List.mem_cons.mp mx with rfl | mx
      · exact f
      · exact f3.2 x mx⟩
/-- for arguments of any kinds -/
theorem tds_consP (h : TD K p l σ G t φ) (hr : TDs K p l σ G tr Φ) : TDs K p l σ G (tCons t tr) (fun ds => ∃ d r, ds = d :: r ∧ φ d ∧ Φ r) := fun G1 H Q W s k =>
  h G1 H _ W s fun v d G2 H2 e da f => hr G2 H2 _ e.w (s.trans e.sub) fun vs ds G3 H3 e3 das f3 => k _ _ _ _ (e.trans W e3) (.cons (da.mono e3.sub) das) ⟨d, ds, rfl, f, f3⟩
theorem tds_nilP : TDs K p l σ G tNil (fun ds => ds = []) := fun G1 H Q W _ k => k _ _ _ _ (Ext.refl W) .nil rfl
theorem td_tupP (h : TDs K p l σ G tr Φ) (hz : ∀ ds, Φ ds → ds.length ≤ sizeLine) : TD K p l σ G (tTup tr) (fun d => ∃ ds, d = .tuple ds ∧ Φ ds) := fun G1 H Q W s k =>
  h G1 H _ W s fun vs ds G2 H2 e da f => ⟨by rw [da.length]; exact hz ds f, fun a ha => k _ _ _ _ (e.trans W (e.w.put ha)) (.tup (SqT.of upd_same) (da.mono (e.w.put (o := .tup vs) ha).sub)) ⟨ds, rfl, f⟩⟩
theorem td_tup (h : TDs K p l σ G tr (All k n m)) (hz : m ≤ sizeLine := by decide) : TD K p l σ G (tTup tr) (Tp k n m) :=
  (td_tupP h fun ds f => by rw [f.1]; exact hz).imp fun d ⟨ds, e, f⟩ => ⟨ds, e, Nat.le_of_eq f.1, f.2⟩
theorem td_lst (h : TDs K p l σ G tr (All k n (m + 1))) (hz : m + 1 ≤ sizeLine := by decide) : TD K p l σ G (tLst tr) (Ls k n (m + 1)) := fun G1 H Q W s k =>
  h G1 H _ W s fun vs ds G2 H2 e da f => ⟨by rw [da.length, f.1]; exact hz, fun a ha => k _ _ _ _ (e.trans W (e.w.put ha)) (.lst upd_same (da.mono (e.w.put (o := .lst vs) ha).sub)) ⟨ds, rfl, by rw [f.1]; omega, Nat.le_of_eq f.1, f.2⟩⟩
theorem td_lst0 (hn : 3 ≤ n := by decide) : TD K p l σ G (tLst tNil) (Okd (k + 1) n) := fun G1 H Q W s k => ⟨Nat.zero_le _, fun a ha => k _ _ _ _ (W.put ha) (.lst upd_same .nil) ⟨rfl, by simp [PyData.depth, PyData.depthAll], hn⟩⟩
theorem td_tup0 : TD K p l σ G (tTup tNil) (Tp k n 0) := fun G1 H Q W s k => ⟨Nat.zero_le _, fun a ha => k _ _ _ _ (W.put ha) (.tup (SqT.of upd_same) .nil) ⟨[], rfl, Nat.le_refl _, fun x h => absurd h List.not_mem_nil⟩⟩
theorem td_dict0 (hn : 2 ≤ n := by decide) : TD K p l σ G tDNewK (Okd (k + 1) n) := fun G1 H Q W s k => fun a ha => k _ _ _ _ (W.put ha) (Da.dct (kvs := []) upd_same .nil) ⟨rfl, by simp [PyData.depth, PyData.depthKv], hn⟩
theorem Da.tpI {G : Hp} {v : V} {d : PyData} (h : Da K G v d) (f : Tp k n m d) : ∃ a xs ds, v = .ref a ∧ d = .tuple ds ∧ SqT K G a xs ∧ DaAll K G xs ds ∧ ds.length ≤ m ∧ ∀ x ∈ ds, Okd k n x := by
  obtain ⟨ds, rfl, h1, h2⟩ := f
  cases h with
  | tup a b => exact ⟨_, _, ds, rfl, rfl, a, b, h1, h2⟩
theorem Da.lsI {G : Hp} {v : V} {d : PyData} (h : Da K G v d) (f : Ls k n m d) : ∃ a xs ds, v = .ref a ∧ d = .list ds ∧ G a = some (.lst xs) ∧ DaAll K G xs ds ∧ 0 < ds.length ∧ ds.length ≤ m ∧ ∀ x ∈ ds, Okd k n x := by
  obtain ⟨ds, rfl, h0, h1, h2⟩ := f
  cases h with
  | lst a b => exact ⟨_, _, ds, rfl, rfl, a, b, h0, h1, h2⟩
/-- t + u, tuples -/
theorem td_catA {m2 : Nat} (ha : TD K p l σ G ta (Tp k n m)) (hb : TD K p l σ G tb (Tp k n m2)) (hz : m + m2 ≤ sizeLine := by decide) : TD K p l σ G (tOp (rCatA K) ta tb) (Tp k n (m + m2)) := fun G1 H Q W s k =>
  ha G1 H _ W s fun v d G2 H2 e da f => hb G2 H2 _ e.w (s.trans e.sub) fun u d2 G3 H3 e3 da3 f3 => by
    obtain ⟨a, xs, ds, rfl, rfl, t1, a1, l1, o1⟩ := da.tpI f
    obtain ⟨b, ys, es, rfl, rfl, t2, a2, l2, o2⟩ := da3.tpI f3
    have E := e.trans W e3
    refine ⟨a, b, xs, ys, rfl, rfl, sameT (e3.sub.trans e3.w.same) t1, sameT e3.w.same t2, by rw [a1.length, a2.length]; omega, fun hx => ?_, fun hx hy => ?_, fun hx hy c hc => ?_⟩
    · exact k _ _ _ _ E da3 ⟨es, rfl, by omega, o2⟩
    · exact k _ _ _ _ E (da.mono e3.sub) ⟨ds, rfl, by omega, o1⟩
    · have e4 := e3.w.put (o := .tup (xs ++ ys)) hc
      refine k _ _ _ _ (E.trans W e4) (.tup (SqT.of upd_same) ((a1.mono (e3.sub.trans e4.sub)).append (a2.mono e4.sub))) ⟨ds ++ es, rfl, by rw [List.length_append]; omega, fun x mx => ?_⟩
      rcases List.mem_append.mp mx with mx | mx
      · exact o1 x mx
      · exact o2 x mx
/-- xs + ys, lists -/
theorem td_cat {m2 : Nat} (ha : TD K p l σ G ta (Ls k n m)) (hb : TD K p l σ G tb (Ls k n m2)) (hz : m + m2 ≤ sizeLine := by decide) : TD K p l σ G (tOp rCat ta tb) (Ls k n (m + m2)) := fun G1 H Q W s k =>
  ha G1 H _ W s fun v d G2 H2 e da f => hb G2 H2 _ e.w (s.trans e.sub) fun u d2 G3 H3 e3 da3 f3 => by
    obtain ⟨a, xs, ds, rfl, rfl, t1, a1, z1, l1, o1⟩ := da.lsI f
    obtain ⟨b, ys, es, rfl, rfl, t2, a2, z2, l2, o2⟩ := da3.lsI f3
    have E := e.trans W e3
    refine ⟨a, b, xs, ys, rfl, rfl, (e3.sub.trans e3.w.same) _ _ t1, e3.w.same _ _ t2, by rw [a1.length, a2.length]; omega, fun c hc => ?_⟩
    have e4 := e3.w.put (o := .lst (xs ++ ys)) hc
    refine k _ _ _ _ (E.trans W e4) (.lst upd_same ((a1.mono (e3.sub.trans e4.sub)).append (a2.mono e4.sub))) ⟨ds ++ es, rfl, by rw [List.length_append]; omega, by rw [List.length_append]; omega, fun x mx => ?_⟩
    rcases List.mem_append.mp mx with mx | mx
    · exact o1 x mx
    · exact o2 x mx
/-- t[lo:hi] -/
theorem td_sl {tl th : TO} (ha : TD K p l σ G ta (Tp k n m)) (hl : TPt σ tl) (hh : TPt σ th) : TD K p l σ G (tSl (rSlA K) ta tl th) (Tp k n m) := fun G1 H Q W s k =>
  ha G1 H _ W s fun v d G2 H2 e da f => hl H2 _ fun lo => hh H2 _ fun hi => by
    obtain ⟨a, xs, ds, rfl, rfl, t1, a1, l1, o1⟩ := da.tpI f
    refine ⟨a, xs, rfl, sameT e.w.same t1, fun _ => k _ _ _ _ e da ⟨ds, rfl, l1, o1⟩, fun _ c hc => ?_⟩
    have e4 := e.w.put (o := .tup (cutV xs lo hi)) hc
    refine k _ _ _ _ (e.trans W e4) (.tup (SqT.of upd_same) ((((a1.drop _).take _).mono e4.sub))) ⟨_, rfl, ?_, fun x mx => o1 x (List.mem_of_mem_drop (List.mem_of_mem_take mx))⟩
    rw [List.length_take, List.length_drop]
    omega
theorem tp_none : TPt σ tNoPart := fun H Q h => h none
theorem tp_int {i : Int} : TPt σ (tPart (tC (.int i))) := fun H Q h => ⟨i, rfl, h _⟩
theorem tp_var {i : Nat} {z : Int} (hi : σ[i]? = some (some (.int z))) : TPt σ (tPart (tVar i)) := fun H Q h => ⟨_, hi, _, rfl, h _⟩
theorem tp_add {i : Nat} {z c : Int} (hi : σ[i]? = some (some (.int z))) : TPt σ (tPart (tOp (rI0 fun i j => .int (i + j)) (tVar i) (tC (.int c)))) := fun H Q h => ⟨_, hi, _, _, rfl, rfl, _, rfl, h _⟩
/-- (x,) * c -/
theorem td_rep {c : Int} {N : Nat} (ha : TD K p l σ G ta (fun d => ∃ x, d = .tuple [x] ∧ Okd k n x)) (h2 : 2 ≤ c := by decide) (h3 : c ≤ 1000 := by decide) (hN : c.toNat ≤ N := by decide) : TD K p l σ G (tOp (rRepT K) ta (tC (.int c))) (Tp k n N) := fun G1 H Q W s k =>
  ha G1 H _ W s fun v d G2 H2 e da f => by
    obtain ⟨x, rfl, o1⟩ := f
    cases da with
    | @tup a xs _ t1 a1 =>
      cases a1 with
      | cons b1 b2 =>
        cases b2
        rename_i y
        refine ⟨a, c, [y], rfl, rfl, sameT e.w.same t1, by simp, h2, h3, by simp, fun q hq => ?_⟩
        have e4 := e.w.put (o := .tup (List.replicate c.toNat [y]).flatten) hq
        refine k _ _ _ _ (e.trans W e4) (.tup (SqT.of upd_same) ((DaAll.flat (.cons b1 .nil) c.toNat).mono e4.sub)) ⟨_, rfl, ?_, fun z mz => ?_⟩
        · rw [PyProof.Rows.lm_len_rep_flat]
          simpa using hN
        · rw [List.mem_flatten] at mz
          obtain ⟨r, hr, mz⟩ := mz
          rw [(List.mem_replicate.mp hr).2] at mz
          rw [List.mem_singleton.mp mz]
          exact o1
/-- list(t), t a tuple -/
theorem td_list_of (ha : TD K p l σ G ta (Tp k n m)) {N : Nat} (hN : (n + 2) * m + 3 ≤ N := by decide) :
    TD K p l σ G (tCB (fun xs H Q => ∃ p ys, xs = [.ref p] ∧ (SqL K H p ys ∨ SqT K H p ys) ∧ ∀ l, H l = none → Q (.ref l) (upd H l (.lst ys))) (tCons ta tNil)) (Okd (k + 1) N) := fun G1 H Q W s k =>
  ha G1 H _ W s fun v d G2 H2 e da f => by
    obtain ⟨a, xs, ds, rfl, rfl, t1, a1, l1, o1⟩ := da.tpI f
    refine ⟨a, xs, rfl, .inr (sameT e.w.same t1), fun q hq => ?_⟩
    have e4 := e.w.put (o := .lst xs) hq
    exact k _ _ _ _ (e.trans W e4) (.lst upd_same (a1.mono e4.sub)) (Okd.list o1 l1 hN)
/-- tuple(xs), xs a list -/
theorem td_tuple_of {N : Nat} (ha : TD K p l σ G ta (fun d => ∃ ds, d = .list ds ∧ ds.length ≤ m ∧ ∀ x ∈ ds, Okd k n x)) :
    TD K p l σ G (tCB (fun xs H Q => ∃ p ys, xs = [.ref p] ∧ ((SqL K H p ys ∧ ∀ l, H l = none → Q (.ref l) (upd H l (.tup ys))) ∨ (SqT K H p ys ∧ Q (.ref p) H))) (tCons ta tNil)) (Tp k n m) := fun G1 H Q W s k =>
  ha G1 H _ W s fun v d G2 H2 e da f => by
    obtain ⟨ds, rfl, l1, o1⟩ := f
    cases da with
    | @lst a xs _ t1 a1 =>
      refine ⟨a, xs, rfl, .inl ⟨SqL.of (e.w.same _ _ t1), fun q hq => ?_⟩⟩
      have e4 := e.w.put (o := .tup xs) hq
      exact k _ _ _ _ (e.trans W e4) (.tup (SqT.of upd_same) (a1.mono e4.sub)) ⟨ds, rfl, l1, o1⟩
end
/-! ### comprehensions over a range -/
section
variable (K : PySem.W.Frag) (p l : Addr) (σ : St) (G : Hp)
/-- a range of N turns, N as told; the deck may be drawn from -/
def TW (wi : TI) (ν : Nat → Prop) : Prop := ∀ (G1 H : Hp) (R : It → Hp → Prop), Wd p l G1 H → Same G G1 → (∀ N G2 H2, ν N → Ext p l G1 H G2 H2 → R (Itr 0 N) H2) → wi σ H R
end
/-- a list whose length and items are as told -/
def LsN (ν : Nat → Prop) (φ : PyData → Prop) (d : PyData) : Prop := ∃ ds, d = .list ds ∧ ν ds.length ∧ ∀ x ∈ ds, φ x
section
variable {K : PySem.W.Frag} {p l : Addr} {σ : St} {G : Hp}
theorem set_none {j : Nat} {v : Option V} (σ : St) : ((σ.set j none).set j v).set j none = σ.set j none := by
  rw [List.set_set, List.set_set]
theorem tw_var {i : Nat} {z : Int} (hi : σ[i]? = some (some (.int z))) (h0 : 0 ≤ z) (h1 : z < 1000000) : TW p l σ G (iRng1 (tCons (tVar i) tNil)) (fun N => (N : Int) = z) := fun G1 H R W s k =>
  ⟨_, hi, z, rfl, by omega, by omega, k _ _ _ (by omega) (Ext.refl W)⟩
theorem tw_int {z : Int} (h0 : 0 ≤ z) (h1 : z < 1000000) : TW p l σ G (iRng1 (tCons (tC (.int z)) tNil)) (fun N => (N : Int) = z) := fun G1 H R W s k =>
  ⟨z, rfl, by omega, by omega, k _ _ _ (by omega) (Ext.refl W)⟩
theorem td_lc {wi : TI} {te : TE} {j M : Nat} {ν : Nat → Prop} {φ : PyData → Prop} (hw : TW p l σ G wi ν) (hM : ∀ N, ν N → N ≤ M) (hM2 : M < sizeLine) (he : ∀ i : Nat, TD K p l ((σ.set j none).set j (some (.int (0 + (i : Int))))) G te φ) :
    TD K p l σ G (tLc wi (gName j) tYes te [j]) (LsN ν φ) := fun G1 H Q W s k =>
  hw G1 H _ W s fun N G2 H2 hN e => fun D hD => by
    have nDp := e.w.np hD
    have nDl := e.w.nl hD
    have E1 := e.w.tmp (o := .lst []) hD
    refine lc_range (lo := 0) (n := N) (fun i H3 => ∃ G3 xs ds, Wd p l G3 H3 ∧ Same G2 G3 ∧ G3 D = none ∧ H3 D = some (.lst xs) ∧ DaAll K G3 xs ds ∧ ds.length = i ∧ (∀ x ∈ ds, φ x) ∧
        (∀ b o, b ≠ p → b ≠ l → b ≠ D → H2 b = some o → H3 b = some o) ∧ (∀ b o, H2 b = some o → G2 b = none → G3 b = none))
      ⟨G2, [], [], E1.w, Same.refl _, e.w.same.free hD, upd_same, .nil, rfl, fun x m => absurd m List.not_mem_nil, fun b o n1 n2 n3 q => by rw [upd_ne n3]; exact q, fun b o _ g => g⟩ ?_ ?_
    · rintro i H3 hi ⟨G3, xs, ds, w3, s3, gD, hD3, da3, l3, f3, k3, n3⟩
      refine ⟨set_none σ, ?_⟩
      show te _ _ _
      refine he i G3 H3 _ w3 ((s.trans e.sub).trans s3) fun v d G4 H4 e4 da4 f4 => ?_
      have hD4 : H4 D = some (.lst xs) := e4.keep _ _ nDp nDl hD3
      have gD4 : G4 D = none := e4.new _ _ hD3 gD
      refine ⟨xs, hD4, by rw [da3.length, l3]; exact Nat.lt_of_lt_of_le hi (Nat.le_trans (hM N hN) (Nat.le_of_lt hM2)), G4, xs ++ [v], ds ++ [d], e4.w.own nDp nDl gD4, s3.trans e4.sub, gD4, upd_same, (da3.mono e4.sub).append (.cons da4 .nil),
        by rw [List.length_append, l3]; rfl, fun x m => ?_, fun b o n1 n2 n4 q => ?_, fun b o q g => ?_⟩
      · rcases List.mem_append.mp m with m | m
        · exact f3 x m
        · rw [List.mem_singleton.mp m]
          exact f4
      · rw [upd_ne n4]
        exact e4.keep _ _ n1 n2 (k3 b o n1 n2 n4 q)
      · have g3 := n3 b o q g
        by_cases b1 : b = p
        · subst b1
          exact e4.w.gp
        · by_cases b2 : b = l
          · subst b2
            exact e4.w.gl
          · exact e4.new b o (k3 b o b1 b2 (ne_of_none q hD) q) g3
    · rintro H3 ⟨G3, xs, ds, w3, s3, gD, hD3, da3, l3, f3, k3, n3⟩
      obtain ⟨w4, s4⟩ := w3.hold nDp nDl gD hD3
      have E2 : Ext p l G2 H2 (upd G3 D (.lst xs)) H3 := ⟨w4, s3.trans s4, fun b o n1 n2 q => k3 b o n1 n2 (ne_of_none q hD) q, fun b o q g => by
        rw [upd_ne (ne_of_none q hD)]
        exact n3 b o q g⟩
      exact k _ _ _ _ (e.trans W E2) (.lst upd_same (da3.mono s4)) ⟨ds, rfl, by rw [l3]; exact hN, f3⟩
/-- tuple(xs), xs a list as told -/
theorem td_tupleN {ta : TE} {ν : Nat → Prop} {φ : PyData → Prop} (ha : TD K p l σ G ta (LsN ν φ)) :
    TD K p l σ G (tCB (fun xs H Q => ∃ p ys, xs = [.ref p] ∧ ((SqL K H p ys ∧ ∀ l, H l = none → Q (.ref l) (upd H l (.tup ys))) ∨ (SqT K H p ys ∧ Q (.ref p) H))) (tCons ta tNil)) (fun d => ∃ ds, d = .tuple ds ∧ ν ds.length ∧ ∀ x ∈ ds, φ x) := fun G1 H Q W s k =>
  ha G1 H _ W s fun v d G2 H2 e da f => by
    obtain ⟨ds, rfl, l1, o1⟩ := f
    cases da with
    | @lst a xs _ t1 a1 =>
      refine ⟨a, xs, rfl, .inl ⟨SqL.of (e.w.same _ _ t1), fun q hq => ?_⟩⟩
      have e4 := e.w.put (o := .tup xs) hq
      exact k _ _ _ _ (e.trans W e4) (.tup (SqT.of upd_same) (a1.mono e4.sub)) ⟨ds, rfl, l1, o1⟩
theorem td_tupO {tr : TA} {k n m k2 N : Nat} (h : TDs K p l σ G tr (All k n m)) (hN : (n + 2) * m + 3 ≤ N := by decide) (hk : k + 1 ≤ k2 := by decide) (hz : m ≤ sizeLine := by decide) : TD K p l σ G (tTup tr) (Okd k2 N) :=
  (td_tup h hz).imp fun d f => (f.okd hN).mono hk (Nat.le_refl _)
theorem td_tup0O {k n : Nat} (hk : 1 ≤ k := by decide) (hn : 3 ≤ n := by decide) : TD K p l σ G (tTup tNil) (Okd k n) := td_tup0.imp fun d (f : Tp 0 0 0 d) => (f.okd (N := 3)).mono hk hn
theorem td_tpO {t : TE} {k n m k2 N : Nat} (h : TD K p l σ G t (Tp k n m)) (hN : (n + 2) * m + 3 ≤ N := by decide) (hk : k + 1 ≤ k2 := by decide) : TD K p l σ G t (Okd k2 N) := h.imp fun d f => (f.okd hN).mono hk (Nat.le_refl _)
end
end L2.Hx

/-! The text of the law of stores and heaps: its defs by their places. -/
namespace L2.Hx
open PySem PySem.Spec PyProof.Rows
abbrev pw : Program := PySem.Challenge.pw_heldapart_k05_what_are_stores_and_heaps
def top (i : Nat) : Stmt := pw.main.body.getD i (.Pass ⟨0, 0, 0, 0⟩)
abbrev s_is_term : Stmt := top 4
theorem sc_is_term : FnScope ["value"] ["value"] (defScope s_is_term) := ⟨rfl, rfl, rfl, by decide +kernel, rfl, by decide +kernel, by decide +kernel⟩
abbrev s_is_name : Stmt := top 5
theorem sc_is_name : FnScope ["value", "sign"] ["value"] (defScope s_is_name) := ⟨rfl, rfl, rfl, by decide +kernel, rfl, by decide +kernel, by decide +kernel⟩
abbrev s_store_error : Stmt := top 7
theorem sc_store_error : FnScope ["value", "item"] ["value"] (defScope s_store_error) := ⟨rfl, rfl, rfl, by decide +kernel, rfl, by decide +kernel, by decide +kernel⟩
abbrev s_heap_error : Stmt := top 8
theorem sc_heap_error : FnScope ["value", "item"] ["value"] (defScope s_heap_error) := ⟨rfl, rfl, rfl, by decide +kernel, rfl, by decide +kernel, by decide +kernel⟩
abbrev s_row_error : Stmt := top 9
theorem sc_row_error : FnScope ["items", "fits", "spot", "fit"] ["items", "fits"] (defScope s_row_error) := ⟨rfl, rfl, rfl, by decide +kernel, rfl, by decide +kernel, by decide +kernel⟩
abbrev s_is_pair : Stmt := top 10
theorem sc_is_pair : FnScope ["value"] ["value"] (defScope s_is_pair) := ⟨rfl, rfl, rfl, by decide +kernel, rfl, by decide +kernel, by decide +kernel⟩
abbrev s_is_named : Stmt := top 11
theorem sc_is_named : FnScope ["value"] ["value"] (defScope s_is_named) := ⟨rfl, rfl, rfl, by decide +kernel, rfl, by decide +kernel, by decide +kernel⟩
abbrev s_is_value : Stmt := top 12
theorem sc_is_value : FnScope ["value"] ["value"] (defScope s_is_value) := ⟨rfl, rfl, rfl, by decide +kernel, rfl, by decide +kernel, by decide +kernel⟩
abbrev s_is_address : Stmt := top 13
theorem sc_is_address : FnScope ["value"] ["value"] (defScope s_is_address) := ⟨rfl, rfl, rfl, by decide +kernel, rfl, by decide +kernel, by decide +kernel⟩
abbrev s_l_deck : Stmt := top 15
theorem sc_l_deck : FnScope ["script", "deck", "cell", "whole"] ["script"] (defScope s_l_deck) := ⟨rfl, rfl, rfl, by decide +kernel, rfl, by decide +kernel, by decide +kernel⟩
abbrev s_l_draw : Stmt := top 16
theorem sc_l_draw : FnScope ["deck", "many", "whole", "number"] ["deck", "many"] (defScope s_l_draw) := ⟨rfl, rfl, rfl, by decide +kernel, rfl, by decide +kernel, by decide +kernel⟩
abbrev s_l_pick : Stmt := top 17
theorem sc_l_pick : FnScope ["deck", "items"] ["deck", "items"] (defScope s_l_pick) := ⟨rfl, rfl, rfl, by decide +kernel, rfl, by decide +kernel, by decide +kernel⟩
abbrev s_l_shuffled : Stmt := top 18
theorem sc_l_shuffled : FnScope ["deck", "items", "left", "rest"] ["deck", "items"] (defScope s_l_shuffled) := ⟨rfl, rfl, rfl, by decide +kernel, rfl, by decide +kernel, by decide +kernel⟩
abbrev s_l_words : Stmt := top 19
theorem sc_l_words : FnScope [] [] (defScope s_l_words) := ⟨rfl, rfl, rfl, by decide +kernel, rfl, by decide +kernel, by decide +kernel⟩
abbrev s_l_odd_value : Stmt := top 20
theorem sc_l_odd_value : FnScope ["deck", "deep", "way", "plain", "inner", "turn"] ["deck", "deep"] (defScope s_l_odd_value) := ⟨rfl, rfl, rfl, by decide +kernel, rfl, by decide +kernel, by decide +kernel⟩
abbrev s_l_is_name : Stmt := top 21
theorem sc_l_is_name : FnScope ["value", "sign"] ["value"] (defScope s_l_is_name) := ⟨rfl, rfl, rfl, by decide +kernel, rfl, by decide +kernel, by decide +kernel⟩
abbrev s_l_is_from : Stmt := top 22
theorem sc_l_is_from : FnScope ["value", "least"] ["value", "least"] (defScope s_l_is_from) := ⟨rfl, rfl, rfl, by decide +kernel, rfl, by decide +kernel, by decide +kernel⟩
abbrev s_l_due : Stmt := top 23
theorem sc_l_due : FnScope ["value", "is_store", "spot", "own"] ["value", "is_store"] (defScope s_l_due) := ⟨rfl, rfl, rfl, by decide +kernel, rfl, by decide +kernel, by decide +kernel⟩
abbrev s_l_is_right : Stmt := top 24
theorem sc_l_is_right : FnScope ["value", "is_store", "is_named_v", "known", "due", "seen", "own"] ["value", "is_store", "is_named_v"] (defScope s_l_is_right) := ⟨rfl, rfl, rfl, by decide +kernel, rfl, by decide +kernel, by decide +kernel⟩
abbrev s_l_store : Stmt := top 25
theorem sc_l_store : FnScope ["deck", "pool", "names", "name"] ["deck"] (defScope s_l_store) := ⟨rfl, rfl, rfl, by decide +kernel, rfl, by decide +kernel, by decide +kernel⟩
abbrev s_l_heap : Stmt := top 26
theorem sc_l_heap : FnScope ["deck", "many", "at", "rest", "turn"] ["deck", "many"] (defScope s_l_heap) := ⟨rfl, rfl, rfl, by decide +kernel, rfl, by decide +kernel, by decide +kernel⟩
abbrev s_l_odd_item : Stmt := top 27
theorem sc_l_odd_item : FnScope ["deck", "own", "is_store", "first", "second", "begins", "values", "menu"] ["deck", "own", "is_store"] (defScope s_l_odd_item) := ⟨rfl, rfl, rfl, by decide +kernel, rfl, by decide +kernel, by decide +kernel⟩
abbrev s_l_turned : Stmt := top 28
theorem sc_l_turned : FnScope ["deck", "value", "is_store", "at", "way", "twice"] ["deck", "value", "is_store"] (defScope s_l_turned) := ⟨rfl, rfl, rfl, by decide +kernel, rfl, by decide +kernel, by decide +kernel⟩
abbrev s_law : Stmt := top 29
theorem sc_law : FnScope ["script", "deck", "turn", "is_store", "value", "again", "once", "top", "far", "long"] ["script"] (defScope s_law) := ⟨rfl, rfl, rfl, by decide +kernel, rfl, by decide +kernel, by decide +kernel⟩
structure Txt (K : PySem.W.Frag) (mg : Str → Option Value) : Prop where
  b_abs : mg "abs" = none
  b_all : mg "all" = none
  b_bool : mg "bool" = none
  b_enumerate : mg "enumerate" = none
  b_int : mg "int" = none
  b_isinstance : mg "isinstance" = none
  b_len : mg "len" = none
  b_list : mg "list" = none
  b_range : mg "range" = none
  b_repr : mg "repr" = none
  b_sorted : mg "sorted" = none
  b_str : mg "str" = none
  b_tuple : mg "tuple" = none
  c_WORDS : ∃ a, mg "WORDS" = some (.ref a) ∧ ∀ H, SqT K H a (w_WORDS.map V.str)
  c_LETTERS : ∃ t, mg "LETTERS" = some (.str "abcdefghijklmnopqrstuvwxyz" t)
  c_MAX_LETTERS : ∃ t, mg "MAX_LETTERS" = some (.int 8 t)
  d_is_term : ∃ f fd, Src K mg "is_term" s_is_term ["value"] f fd
  d_is_name : ∃ f fd, Src K mg "is_name" s_is_name ["value"] f fd
  d_store_error : ∃ f fd, Src K mg "store_error" s_store_error ["value"] f fd
  d_heap_error : ∃ f fd, Src K mg "heap_error" s_heap_error ["value"] f fd
  d_row_error : ∃ f fd, Src K mg "row_error" s_row_error ["items", "fits"] f fd
  d_is_pair : ∃ f fd, Src K mg "is_pair" s_is_pair ["value"] f fd
  d_is_named : ∃ f fd, Src K mg "is_named" s_is_named ["value"] f fd
  d_is_value : ∃ f fd, Src K mg "is_value" s_is_value ["value"] f fd
  d_is_address : ∃ f fd, Src K mg "is_address" s_is_address ["value"] f fd
  d_l_deck : ∃ f fd, Src K mg "_law_deck" s_l_deck ["script"] f fd
  d_l_draw : ∃ f fd, Src K mg "_law_draw" s_l_draw ["deck", "many"] f fd
  d_l_pick : ∃ f fd, Src K mg "_law_pick" s_l_pick ["deck", "items"] f fd
  d_l_shuffled : ∃ f fd, Src K mg "_law_shuffled" s_l_shuffled ["deck", "items"] f fd
  d_l_words : ∃ f fd, Src K mg "_law_words" s_l_words [] f fd
  d_l_odd_value : ∃ f fd, Src K mg "_law_odd_value" s_l_odd_value ["deck", "deep"] f fd
  d_l_is_name : ∃ f fd, Src K mg "_law_is_name" s_l_is_name ["value"] f fd
  d_l_is_from : ∃ f fd, Src K mg "_law_is_from" s_l_is_from ["value", "least"] f fd
  d_l_due : ∃ f fd, Src K mg "_law_due" s_l_due ["value", "is_store"] f fd
  d_l_is_right : ∃ f fd, Src K mg "_law_is_right" s_l_is_right ["value", "is_store", "is_named_v"] f fd
  d_l_store : ∃ f fd, Src K mg "_law_store" s_l_store ["deck"] f fd
  d_l_heap : ∃ f fd, Src K mg "_law_heap" s_l_heap ["deck", "many"] f fd
  d_l_odd_item : ∃ f fd, Src K mg "_law_odd_item" s_l_odd_item ["deck", "own", "is_store"] f fd
  d_l_turned : ∃ f fd, Src K mg "_law_turned" s_l_turned ["deck", "value", "is_store"] f fd
  d_law : ∃ f fd, Src K mg "law" s_law ["script"] f fd
section
variable {X : Cx}
theorem pe_cI {x : Str} {i : Int} {pos : Pos} (h : ∃ t, X.mg x = some (.int i t)) (hg : Gl X x := by rfl) (hd : (x == ("__debug__" : Str)) = false := by decide) : PE X (.Name x pos) (tC (.int i)) := let ⟨t, h⟩ := h; pe_glob hg h ⟨t, rfl⟩ hd
theorem pe_cS {x y : Str} {pos : Pos} (h : ∃ t, X.mg x = some (.str y t)) (hg : Gl X x := by rfl) (hd : (x == ("__debug__" : Str)) = false := by decide) : PE X (.Name x pos) (tC (.str y)) := let ⟨t, h⟩ := h; pe_glob hg h ⟨t, rfl⟩ hd
theorem pe_cR {x : Str} {a : Addr} {pos : Pos} (h : X.mg x = some (.ref a)) (hg : Gl X x := by rfl) (hd : (x == ("__debug__" : Str)) = false := by decide) : PE X (.Name x pos) (tC (.ref a)) := pe_glob hg h rfl hd
theorem pe_bT {x : Str} {n : String} {pos : Pos} (h : X.mg x = none) (hv : bootBuiltins x = some (.type n)) (hg : Gl X x := by rfl) (hn : x ≠ "__name__" := by decide) (hd : (x == ("__debug__" : Str)) = false := by decide) : PE X (.Name x pos) (tC (.ty n)) := pe_bltn hg h hv rfl hn hd
end
end L2.Hx

/-! The deck: a draw, a pick. -/
namespace L2.Hx
open PySem PySem.Spec PyProof.Rows
theorem dget_great {H : Hp} {p l : Addr} {m t : Int} (h : H p = some (.dK (deckD l m t))) : DGet H p (.str "great") (some (.ref l)) := by
  rw [← deck_great l m t]
  exact DGet.k (k := kGreat) h
theorem dget_mixed {H : Hp} {p l : Addr} {m t : Int} (h : H p = some (.dK (deckD l m t))) : DGet H p (.str "mixed") (some (.int m)) := by
  rw [← deck_mixed l m t]
  exact DGet.k (k := kMixed) h
theorem dget_turns {H : Hp} {p l : Addr} {m t : Int} (h : H p = some (.dK (deckD l m t))) : DGet H p (.str "turns") (some (.int t)) := by
  rw [← deck_turns l m t]
  exact DGet.k (k := kTurns) h
theorem dput_turns {H : Hp} {p l : Addr} {m t u : Int} (h : H p = some (.dK (deckD l m t))) : DPut H p (.str "turns") (.int u) (upd H p (.dK (deckD l m u))) := by
  rw [← deck_put_turns l m t u]
  exact DPut.k (k := kTurns) h (by show 3 < sizeLine; decide)
theorem dput_mixed {H : Hp} {p l : Addr} {m t u : Int} (h : H p = some (.dK (deckD l m t))) : DPut H p (.str "mixed") (.int u) (upd H p (.dK (deckD l u t))) := by
  rw [← deck_put_mixed l m t u]
  exact DPut.k (k := kMixed) h (by show 3 < sizeLine; decide)
theorem dp_ints {K : PySem.W.Frag} {H : Hp} : ∀ ns : List Int, DpAll K H (ns.map V.int) (ns.map PyData.int)
  | [] => .nil
  | n :: ns => .cons (.int n) (dp_ints ns)
theorem shaped_ints (ns : List Int) : SeqAt.shaped (.list (ns.map PyData.int)) = true := by
  have h1 : ∀ ns : List Int, PyData.canLayAll0 (ns.map PyData.int) = true := fun ns => by
    induction ns with
    | nil => rfl
    | cons n ns ih => simpa [PyData.canLayAll0, PyData.canLay0] using ih
  have h2 : ∀ ns : List Int, PyData.depthAll (ns.map PyData.int) ≤ 1 := fun ns => by
    induction ns with
    | nil => simp [PyData.depthAll]
    | cons n ns ih =>
      simp only [List.map_cons, PyData.depthAll, PyData.depth]
      omega
  have a := h1 ns
  have b := h2 ns
  unfold SeqAt.shaped
  rw [Bool.and_eq_true]
  refine ⟨by simpa [PyData.canLay0] using a, decide_eq_true ?_⟩
  simp only [PyData.depth]
  omega
theorem eqv_nil (ns : List Int) : PyData.eqv (.list (ns.map PyData.int)) (.list []) = decide (ns = []) := by
  cases ns <;> simp [PyData.eqv, PyData.eqvAll]
theorem Wd.gset {p l : Addr} {G H : Hp} (W : Wd p l G H) (ns : List Int) (hz : ns.length ≤ 63) : Ext p l G H G (upd H l (.lst (ns.map V.int))) := by
  have ne := W.ne
  refine ⟨⟨fun b u q => ?_, W.gp, W.gl, ?_, ⟨ns, hz, upd_same⟩⟩, Same.refl G, fun b u _ n2 q => by rw [upd_ne n2]; exact q, fun _ _ _ g => g⟩
  · rw [upd_ne (ne_of_none q W.gl)]
    exact W.same b u q
  · obtain ⟨m, t, m0, m1, e⟩ := W.dk
    exact ⟨m, t, m0, m1, by rw [upd_ne ne]; exact e⟩
theorem Wd.dset {p l : Addr} {G H : Hp} (W : Wd p l G H) {m t : Int} (m0 : 0 ≤ m) (m1 : m < 4294967291) : Ext p l G H G (upd H p (.dK (deckD l m t))) := by
  have ne := W.ne
  refine ⟨⟨fun b u q => ?_, W.gp, W.gl, ⟨m, t, m0, m1, upd_same⟩, ?_⟩, Same.refl G, fun b u n1 _ q => by rw [upd_ne n1]; exact q, fun _ _ _ g => g⟩
  · rw [upd_ne (ne_of_none q W.gp)]
    exact W.same b u q
  · obtain ⟨ns, z, e⟩ := W.ls
    exact ⟨ns, z, by rw [upd_ne ne.symm]; exact e⟩

def spDraw : Sp := fun vs H Q _ => ∃ (p l : Addr) (G : Hp) (many : Int), vs = [.ref p, .int many] ∧ 1 ≤ many ∧ many < 1000000 ∧ Wd p l G H ∧ ∀ (r : Int) (H' : Hp), 0 ≤ r → r < many → Ext p l G H G H' → Q (.int r) H'
section
variable {P : Program} {w : World} {K : PySem.W.Frag} {mg : Str → Option Value} {base : Heap}
theorem D_draw (T : Txt K mg) : Df P w K mg base 1 "_law_draw" ["deck", "many"] spDraw := by
  obtain ⟨f, fd, S⟩ := T.d_l_draw
  refine Df.mk' (k := 0) S sc_l_draw (fun vs H Q E h => ?_) (fun cdv A outer s H vs Q E hgd hr h => ?_)
  · obtain ⟨p, l, G, many, rfl, _⟩ := h
    rfl
  · obtain ⟨p, l, G, many, rfl, h1, h2, W, k⟩ := h
    have hu := hu_of hr
    refine ⟨_, (pss_cons (ps_if (pt_cmpR op_lt (pv 1) pe_int (nomark _)) (pss_one (ps_ret pe_int)) pss_nil)
      (pss_cons (ps_if (pt_cmpR (op_neD hr.units) (pe_dget hu (pv 0) pe_str (fun _ _ => rfl)) (pe_lst pa_nil) (nomark _)) (pss_cons (ps_set (i := 2) sc_l_draw.nd rfl (.inl rfl) (pe_bm0 PySem.F.plainAttrs_list PySem.F.slot_list_pop PySem.F.type_list_pop mt_pop (pe_dget hu (pv 0) pe_str (fun _ _ => rfl))))
      (pss_cons (ps_if (pt_cmpR op_ge (pv 2) (pv 1) (nomark _)) (pss_one (ps_expr (pe_bm PySem.F.plainAttrs_list PySem.F.slot_list_append PySem.F.type_list_append mt_append (pe_dget hu (pv 0) pe_str (fun _ _ => rfl)) (pa_cons (pe_op op_fdivN (pv 2) (pv 1)) pa_nil)))) pss_nil)
      (pss_one (ps_ret (pe_op op_mod (pe_callTy call_int1 (by rfl) T.b_int (by decide +kernel) (pa_cons (pv 2) pa_nil)) (pv 1)))))) pss_nil)
      (pss_cons (ps_dput hu (pv 0) pe_str (pe_op op_add (pe_dget hu (pv 0) pe_str (fun _ _ => rfl)) pe_int) rfl)
      (pss_cons (ps_set (i := 3) sc_l_draw.nd rfl (.inl rfl) (pe_op op_mod (pe_callTy call_int1 (by rfl) T.b_int (by decide +kernel) (pa_cons (pe_op op_add (pe_dget hu (pv 0) pe_str (fun _ _ => rfl)) (pe_op op_mul pe_int (pe_dget hu (pv 0) pe_str (fun _ _ => rfl)))) pa_nil)) pe_int))
      (pss_cons (ps_set (i := 3) sc_l_draw.nd rfl (.inl rfl) (pe_op op_mod (pe_callTy call_int1 (by rfl) T.b_int (by decide +kernel) (pa_cons (pe_op op_add (pe_op op_add (pe_op op_mul (pv 3) (pv 3)) (pe_op op_mul pe_int (pe_dget hu (pv 0) pe_str (fun _ _ => rfl)))) pe_int) pa_nil)) pe_int))
      (pss_cons (ps_set (i := 3) sc_l_draw.nd rfl (.inl rfl) (pe_op op_mod (pe_callTy call_int1 (by rfl) T.b_int (by decide +kernel) (pa_cons (pe_op op_add (pe_op op_mul (pv 3) (pv 3)) (pe_op op_mul (pe_dget hu (pv 0) pe_str (fun _ _ => rfl)) pe_int)) pa_nil)) pe_int))
      (pss_one (ps_ret (pe_op op_mod (pe_callTy call_int1 (by rfl) T.b_int (by decide +kernel) (pa_cons (pe_op op_fdiv (pv 3) pe_int) pa_nil)) (pv 1)))))))))), ?_⟩
    refine ⟨_, rfl, _, _, rfl, rfl, _, rfl, ite2 (fun hc => ?_) (fun hc => ?_)⟩
    · exact k 0 H (Int.le_refl _) (by omega) (Ext.refl W)
    have hm : 2 ≤ many := by
      have := of_decide_eq_false (Bool.eq_false_iff.mpr hc)
      omega
    obtain ⟨m, t, m0, m1, hd⟩ := W.dk
    obtain ⟨ns, hz, hl⟩ := W.ls
    refine ⟨_, rfl, p, _, rfl, dget_great hd, Nat.zero_le _, fun q hq => ?_⟩
    have E1 := W.tmp (o := .lst []) hq
    have hq_p := W.np hq
    have hq_l := W.nl hq
    have hd1 : upd H q (.lst []) p = some (.dK (deckD l m t)) := by rw [upd_ne hq_p.symm]; exact hd
    have hl1 : upd H q (.lst []) l = some (.lst (ns.map V.int)) := by rw [upd_ne hq_l.symm]; exact hl
    refine ⟨.list (ns.map PyData.int), .list [], .lst (SqL.of hl1) (dp_ints ns), .lst (SqL.of upd_same) .nil, shaped_ints ns, rfl, _, rfl, ?_⟩
    rw [eqv_nil]
    refine ite2 (fun hc2 => ?_) (fun hc2 => ?_)
    · -- the great ones
      have hne : ns ≠ [] := by simpa using hc2
      obtain ⟨y, hy⟩ : ∃ y, ns[ns.length - 1]? = some y := by
        cases e : ns[ns.length - 1]? with
        | some y => exact ⟨y, rfl⟩
        | none =>
          have := List.getElem?_eq_none_iff.mp e
          have : 0 < ns.length := List.length_pos_iff.mpr hne
          omega
      have hdl : (ns.map V.int).dropLast = ns.dropLast.map V.int := by rw [List.map_dropLast]
      have hzl : ns.dropLast.length = ns.length - 1 := by simp
      have hpos : 0 < ns.length := List.length_pos_iff.mpr hne
      refine ⟨_, rfl, p, _, rfl, dget_great hd1, .inl ⟨rfl, _, SqL.of hl1⟩, l, ns.map V.int, .int y, rfl, rfl, hl1, by rw [List.length_map, List.getElem?_map, hy]; rfl, ?_⟩
      rw [hdl]
      have E2 := E1.trans W (E1.w.gset ns.dropLast (by omega))
      generalize hH2 : upd (upd H q (.lst [])) l (.lst (ns.dropLast.map V.int)) = H2 at E2 ⊢
      have hl2 : H2 l = some (.lst (ns.dropLast.map V.int)) := by rw [← hH2, upd_same]
      have hd2 : H2 p = some (.dK (deckD l m t)) := by rw [← hH2, upd_ne W.ne]; exact hd1
      refine ⟨_, rfl, _, rfl, _, _, rfl, rfl, _, rfl, ite2 (fun hc3 => ?_) (fun hc3 => ?_)⟩
      · refine ⟨_, rfl, p, _, rfl, dget_great hd2, .inl ⟨rfl, _, SqL.of hl2⟩, _, rfl, _, rfl, _, _, rfl, rfl, ⟨by omega, by omega⟩, l, _, _, rfl, rfl, hl2, by rw [List.length_map, hzl]; exact small1000 (by omega), ?_⟩
        have E3 := E2.trans W (E2.w.gset (ns.dropLast ++ [y.fdiv many]) (by rw [List.length_append, hzl, List.length_singleton]; omega))
        rw [show (ns.dropLast.map V.int ++ [V.int (y.fdiv many)]) = (ns.dropLast ++ [y.fdiv many]).map V.int by rw [List.map_append]; rfl]
        refine ⟨_, rfl, .inl ⟨_, rfl, _, rfl, _, _, rfl, rfl, by show (0 : Int) < many; omega, ?_⟩⟩
        exact k _ _ (Int.emod_nonneg _ (by omega)) (Int.emod_lt_of_pos _ (by omega)) E3
      · refine ⟨_, rfl, .inl ⟨_, rfl, _, rfl, _, _, rfl, rfl, by show (0 : Int) < many; omega, ?_⟩⟩
        exact k _ _ (Int.emod_nonneg _ (by omega)) (Int.emod_lt_of_pos _ (by omega)) E2
    · -- the mixed ones
      refine ⟨_, rfl, p, _, rfl, dget_turns hd1, _, _, rfl, rfl, _, rfl, p, _, rfl, dput_turns hd1, ?_⟩
      have E2 := E1.trans W (E1.w.dset (t := t + 1) m0 m1)
      generalize hH2 : upd (upd H q (.lst [])) p (.dK (deckD l m (t + 1))) = H2 at E2 ⊢
      have hd2 : H2 p = some (.dK (deckD l m (t + 1))) := by rw [← hH2, upd_same]
      refine ⟨_, rfl, p, _, rfl, dget_mixed hd2, _, rfl, p, _, rfl, dget_turns hd2, _, _, rfl, rfl, .inl ⟨by decide, by decide⟩, _, _, rfl, rfl, .inl ⟨_, rfl, _, _, rfl, rfl, by show (0 : Int) < 4294967279; decide, ?_⟩⟩
      generalize hn1 : (m + 2654435761 * (t + 1)) % 4294967279 = n1
      have b1 : 0 ≤ n1 ∧ n1 < 4294967279 := by omega
      refine ⟨_, rfl, _, rfl, _, _, rfl, rfl, .inl ⟨by omega, by omega⟩, _, rfl, p, _, rfl, dget_turns hd2, _, _, rfl, rfl, .inl ⟨by decide, by decide⟩, _, _, rfl, rfl, _, _, rfl, rfl, .inl ⟨_, rfl, _, _, rfl, rfl, by show (0 : Int) < 4294967231; decide, ?_⟩⟩
      generalize hn2 : (n1 * n1 + 40503 * (t + 1) + 19) % 4294967231 = n2
      have b2 : 0 ≤ n2 ∧ n2 < 4294967231 := by omega
      refine ⟨_, rfl, _, rfl, _, _, rfl, rfl, .inl ⟨by omega, by omega⟩, _, rfl, p, _, rfl, dget_mixed hd2, _, _, rfl, rfl, .inr ⟨by decide, by decide⟩, _, _, rfl, rfl, .inl ⟨_, rfl, _, _, rfl, rfl, by show (0 : Int) < 4294967197; decide, ?_⟩⟩
      generalize hn3 : (n2 * n2 + m * 7) % 4294967197 = n3
      refine ⟨_, rfl, _, _, rfl, rfl, ⟨by decide, by decide⟩, .inl ⟨_, rfl, _, rfl, _, _, rfl, rfl, by show (0 : Int) < many; omega, ?_⟩⟩
      exact k _ _ (Int.emod_nonneg _ (by omega)) (Int.emod_lt_of_pos _ (by omega)) E2
end
end L2.Hx

/-! What the law's own defs have in common. -/
namespace L2.Hx
open PySem PySem.Spec PyProof.Rows
section
variable {P : Program} {w : World} {K : PySem.W.Frag} {mg : Str → Option Value} {base : Heap} {p l : Addr} {σ : St} {G : Hp}
theorem sameAdd {H : Hp} {a : Addr} {o : HO} (h : H a = none) : Same H (upd H a o) := fun b u q => by
  rw [upd_ne (ne_of_none q h)]
  exact q
theorem sameOut {H0 H : Hp} {a : Addr} {o : HO} (s : Same H0 H) (h : H0 a = none) : Same H0 (upd H a o) := fun b u q => by
  rw [upd_ne (ne_of_none q h)]
  exact s b u q
theorem Da.tupI {K : PySem.W.Frag} {G : Hp} {v : V} {ds : List PyData} (h : Da K G v (.tuple ds)) : ∃ a xs, v = .ref a ∧ SqT K G a xs ∧ DaAll K G xs ds := by
  cases h with
  | tup h t => exact ⟨_, _, rfl, h, t⟩
theorem Da.strI {K : PySem.W.Frag} {G : Hp} {v : V} {z : Str} (h : Da K G v (.str z)) : v = .str z := by
  cases h
  rfl
theorem ite_of {c A B : Prop} {x : Bool} [Decidable c] (e : x = decide c) (h1 : c → A) (h2 : ¬ c → B) : if x = true then A else B := by
  subst e
  exact ite2 (fun h => h1 (of_decide_eq_true h)) fun h => h2 (of_decide_eq_false (Bool.eq_false_iff.mpr h))
theorem iteNot {c : Bool} {A B : Prop} (h1 : c = false → A) (h2 : c = true → B) : if (!c) = true then A else B := by
  cases c
  · exact iteT (h1 rfl)
  · exact iteF (h2 rfl)
theorem iteB {c : Bool} {A B : Prop} (h1 : c = true → A) (h2 : c = false → B) : if c = true then A else B := by
  cases c
  · exact iteF (h2 rfl)
  · exact iteT (h1 rfl)
theorem behindI {N I : Hp → Prop} {A : Prop} (main : (∀ H2, I H2 → N H2) → A) (fin : ∀ H2, I H2 → N H2) : A := main fin
theorem behindP {N I : V → Hp → Prop} {A : Prop} (main : (∀ u H2, I u H2 → N u H2) → A) (fin : ∀ u H2, I u H2 → N u H2) : A := main fin
theorem behind {N : Hp → Prop} {p l : Addr} {G H : Hp} {A : Prop} (main : (∀ H2 G2, Ext p l G H G2 H2 → N H2) → A) (fin : ∀ H2 G2, Ext p l G H G2 H2 → N H2) : A := main fin
theorem ite_dec {c A B : Prop} [Decidable c] (hc : c) (h : A) : if decide c = true then A else B := by
  rw [if_pos (decide_eq_true hc)]
  exact h
theorem if_no {c : Bool} {A B : Prop} (h : c = false) (b : B) : if c = true then A else B := by
  rw [h]
  exact b
theorem Wd.still {p l : Addr} {G H H' : Hp} (W : Wd p l G H) (s : Same H H') : Ext p l G H G H' := by
  refine ⟨⟨W.same.trans s, W.gp, W.gl, ?_, ?_⟩, Same.refl G, fun b o _ _ q => s b o q, fun _ _ _ g => g⟩
  · obtain ⟨m, t, m0, m1, e⟩ := W.dk
    exact ⟨m, t, m0, m1, s _ _ e⟩
  · obtain ⟨ns, z, e⟩ := W.ls
    exact ⟨ns, z, s _ _ e⟩
theorem Okd.fit {k n : Nat} {d : PyData} (h : Okd k n d) (hn : n ≤ sizeLine) : Fit d := ⟨h.ok, Nat.le_trans h.sz hn⟩
theorem pe_kwd {X : Cx} {k j : Nat} {x : Str} {ps ks : List Str} {sp : Sp} {p pos : Pos} {kws : List Keyword} {tk : TA} (F : ∃ f fd, FnG X.prog X.w X.K X.mg X.base CX0 k f fd ps sp ∧ X.mg x = some (.ref f) ∧ PySem.W.keepIn X.K (.ref f) = true ∧ KwBinds X.K fd ps ks (fun us => us)) (hgd : X.A.guards = some []) (hr : Room j X.A) (hkw : PK X kws tk) (hj : k ≤ j := by first | exact Nat.le_refl _ | decide)
    (hg : Gl X x := by rfl) (hall : (backToKw pos (keywordEach kws X.env)).all (·.1.isSome) = true := by rfl) (hks : (backToKw pos (keywordEach kws X.env)).filterMap (·.1) = ks := by rfl) (hdb : (x == ("__debug__" : Str)) = false := by decide)
    (hpl : ((backTo pos (starEach [] X.env)).any (·.1) || (backToKw pos (keywordEach kws X.env)).any (·.1.isNone)) = false := by rfl) :
    PE X (.Call (.Name x p) [] kws pos) (tKw sp (fun us => us) ps.length E0 tk) := by
  obtain ⟨f, fd, a, b, c, d⟩ := F
  exact pe_kw a hgd (hr.mono hj) hg b c d pass0 hkw (fun r => r) hall hks hdb hpl
theorem cut_ints (ns : List Int) (lo hi : Option Int) : ∃ ms : List Int, cutV (ns.map V.int) lo hi = ms.map V.int ∧ ms.length ≤ ns.length := by
  refine ⟨(ns.drop (HT.sIx (ns.map V.int).length 0 lo)).take (HT.sIx (ns.map V.int).length (ns.map V.int).length hi - HT.sIx (ns.map V.int).length 0 lo), ?_, ?_⟩
  · unfold cutV
    rw [List.map_take, List.map_drop]
  · rw [List.length_take, List.length_drop]
    omega
theorem deck_merge (l : Addr) (m t : Int) : mergeK [] (deckD l m t) = deckD l m t := by
  have h1 : decide (("great" : Str) = "mixed") = false := by decide +kernel
  have h2 : decide (("great" : Str) = "turns") = false := by decide +kernel
  have h3 : decide (("mixed" : Str) = "turns") = false := by decide +kernel
  have n1 := of_decide_eq_false h1
  have n2 := of_decide_eq_false h2
  have n3 := of_decide_eq_false h3
  simp [mergeK, deckD, putK, n1, n2, n3]
def spDeck (K : PySem.W.Frag) : Sp := fun vs H Q _ => ∃ (a : Addr) (ns : List Int), vs = [.ref a] ∧ SqL K H a (ns.map V.int) ∧ ns.length ≤ 63 ∧ ∀ p l H', Wd p l H H' → Q (.ref p) H'
theorem D_deck (T : Txt K mg) : Df P w K mg base 1 "_law_deck" ["script"] (spDeck K) := by
  obtain ⟨f, fd, S⟩ := T.d_l_deck
  refine Df.mk' (k := 0) S sc_l_deck (fun vs H Q E h => ?_) (fun cdv A outer s H vs Q E hgd hr h => ?_)
  · obtain ⟨a, ns, rfl, _⟩ := h
    rfl
  · obtain ⟨a, ns, rfl, hS, hz, k⟩ := h
    have hu := hu_of hr
    refine ⟨_, (pss_cons (ps_set (i := 1) sc_l_deck.nd rfl (.inl rfl) (pe_disp (pps_cons pe_str (pe_lst pa_nil) (pps_cons pe_str (pe_op op_add pe_int (pe_callB call_len_seq (by rfl) T.b_len (by decide +kernel) (pa_cons (pe_slice sl_list (pv 0) po_none (po_some pe_int)) pa_nil))) (pps_cons pe_str pe_int pps_nil))) (by rfl) (by rfl) (fun z => by cases z) (by decide)))
      (pss_cons (ps_for PassesOwn.never rfl (pi_list (pe_slice sl_list (pv 0) po_none (po_some pe_int))) (pg_name (i := 2) sc_l_deck.nd rfl (.inl rfl))
      (pss_cons (ps_set (i := 3) sc_l_deck.nd rfl (.inl rfl) (pe_op op_add (pe_op op_mul pe_int (pe_callB call_abs (by rfl) T.b_abs (by decide +kernel) (pa_cons (pv 2) pa_nil))) (pe_callTy call_int1 (by rfl) T.b_int (by decide +kernel) (pa_cons (pe_cmpR op_lt (pv 2) pe_int (nomark _)) pa_nil))))
      (pss_cons (ps_if (pt_cmpR op_ge (pv 3) (pe_op op_pow pe_int pe_int) (nomark _)) (pss_one (ps_expr (pe_bm PySem.F.plainAttrs_list PySem.F.slot_list_append PySem.F.type_list_append mt_append (pe_dget hu (pv 1) pe_str (fun _ _ => rfl)) (pa_cons (pv 3) pa_nil)))) pss_nil)
      (pss_one (ps_dput hu (pv 1) pe_str (pe_op op_mod (pe_callTy call_int1 (by rfl) T.b_int (by decide +kernel) (pa_cons (pe_op op_add (pe_op op_add (pe_op op_mul (pe_dget hu (pv 1) pe_str (fun _ _ => rfl)) pe_int) (pv 3)) pe_int) pa_nil)) pe_int) rfl)))))
      (pss_one (ps_ret (pv 1))))), ?_⟩
    refine fun p hp => ⟨Nat.zero_le _, fun l hl => ?_⟩
    have npl : p ≠ l := fun z => by
      rw [z, upd_same] at hl
      cases hl
    have hl0 : H l = none := by
      rw [upd_ne npl.symm] at hl
      exact hl
    have s0 : Same H (upd (upd H p (.dK [])) l (.lst [])) := (sameAdd hp).trans (sameAdd hl)
    refine ⟨_, rfl, _, rfl, a, _, rfl, s0.seq hS, fun q hq => ?_⟩
    obtain ⟨ms, e1, e2⟩ := cut_ints ns none (some 63)
    rw [e1]
    have nqp : q ≠ p := fun z => by
      rw [z, upd_ne npl, upd_same] at hq
      cases hq
    have nql : q ≠ l := fun z => by
      rw [z, upd_same] at hq
      cases hq
    have hq0 : H q = none := by
      rw [upd_ne nql, upd_ne nqp] at hq
      exact hq
    refine ⟨q, _, rfl, .inl (SqL.of upd_same), _, _, rfl, rfl, by rw [upd_ne nqp.symm, upd_ne npl, upd_same], deckD l (1283 + ((ms.map V.int).length : Int)) 0, rfl, by show 3 ≤ 15; decide, ?_⟩
    rw [deck_merge, List.length_map]
    generalize hH1 : upd (upd (upd (upd H p (.dK [])) l (.lst [])) q (.lst (ms.map V.int))) p (.dK (deckD l (1283 + (ms.length : Int)) 0)) = H1
    have S1 : Same H H1 := by
      rw [← hH1]
      exact sameOut (sameOut (sameOut (sameOut (Same.refl H) hp) hl0) hq0) hp
    have W1 : Wd p l H H1 := ⟨S1, hp, hl0, ⟨1283 + (ms.length : Int), 0, by omega, by omega, by rw [← hH1, upd_same]⟩, ⟨[], by decide, by rw [← hH1, upd_ne npl.symm, upd_ne nql.symm, upd_same]; rfl⟩⟩
    have L1 : H1 l = some (.lst (([] : List Int).map V.int)) := by
      rw [← hH1, upd_ne npl.symm, upd_ne nql.symm, upd_same]
      rfl
    obtain ⟨ms2, e3, e4⟩ := cut_ints ns none (some 63)
    refine ⟨_, rfl, _, rfl, a, _, rfl, S1.seq hS, fun q2 hq2 => ?_⟩
    rw [e3]
    have n2p := W1.np hq2
    have n2l := W1.nl hq2
    have E1 := W1.tmp (o := .lst (ms2.map V.int)) hq2
    refine ⟨q2, rfl, ⟨_, SqL.of upd_same⟩, for_list (K := K) (a := q2) (xs := ms2.map V.int) (fun i σ H2 => ∃ c v, σ = [some (.ref a), some (.ref p), c, v] ∧ Wd p l H H2 ∧ (∃ gs : List Int, gs.length ≤ i ∧ H2 l = some (.lst (gs.map V.int))) ∧ H2 q2 = some (.lst (ms2.map V.int)))
      ⟨none, none, rfl, E1.w, ⟨[], Nat.le_refl _, by rw [upd_ne n2l.symm]; exact L1⟩, upd_same⟩ (fun i σ H2 _ ⟨_, _, _, _, _, h⟩ => SqL.of h) ?_ ?_⟩
    · rintro i x σ H2 hx ⟨c, v, rfl, W2, ⟨gs, g1, g2⟩, h2⟩
      have hi := (List.getElem?_eq_some_iff.mp hx).1
      rw [List.length_map] at hi
      obtain ⟨u, rfl⟩ : ∃ u, x = V.int u := by
        obtain ⟨u, _, e⟩ := List.mem_map.mp (List.mem_of_getElem? hx)
        exact ⟨u, e.symm⟩
      refine ⟨_, rfl, u, rfl, _, _, rfl, rfl, .inl ⟨by decide, by decide⟩, _, rfl, _, _, rfl, rfl, .inr ⟨_, rfl, _, _, rfl, rfl, ?_⟩⟩
      dsimp only
      generalize (2 * (if u < 0 then -u else u) + (if decide (u < 0) = true then 1 else 0) : Int) = wh
      refine' behindI (I := fun H3 => Wd p l H H3 ∧ (∃ gs : List Int, gs.length ≤ i + 1 ∧ H3 l = some (.lst (gs.map V.int))) ∧ H3 q2 = some (.lst (ms2.map V.int))) (fun fin => ?_) ?_
      rotate_left 1
      · refine ⟨_, rfl, _, _, rfl, rfl, ⟨by decide, by decide, by decide⟩, _, _, rfl, rfl, _, rfl, ite2 (fun _ => ?_) (fun _ => ?_)⟩
        · obtain ⟨m, t, m0, m1, hd⟩ := W2.dk
          refine ⟨_, rfl, p, _, rfl, dget_great hd, .inl ⟨rfl, _, SqL.of g2⟩, _, rfl, l, _, _, rfl, rfl, g2, by rw [List.length_map]; exact small1000 (by omega), ?_⟩
          have E3 := W2.gset (gs ++ [wh]) (by rw [List.length_append, List.length_singleton]; omega)
          rw [show gs.map V.int ++ [V.int wh] = (gs ++ [wh]).map V.int by rw [List.map_append]; rfl]
          have I3 : Wd p l H (upd H2 l (.lst ((gs ++ [wh]).map V.int))) ∧ (∃ gs2 : List Int, gs2.length ≤ i + 1 ∧ (upd H2 l (.lst ((gs ++ [wh]).map V.int))) l = some (.lst (gs2.map V.int))) ∧ (upd H2 l (.lst ((gs ++ [wh]).map V.int))) q2 = some (.lst (ms2.map V.int)) :=
            ⟨E3.w, ⟨gs ++ [wh], by rw [List.length_append, List.length_singleton]; omega, upd_same⟩, by rw [upd_ne n2l]; exact h2⟩
          generalize upd H2 l (.lst ((gs ++ [wh]).map V.int)) = H3 at I3 ⊢
          exact fin H3 I3
        · exact fin H2 ⟨W2, ⟨gs, by omega, g2⟩, h2⟩
      · rintro H3 ⟨W3, ⟨g3, z3, l3⟩, h3⟩
        obtain ⟨m, t, m0, m1, hd⟩ := W3.dk
        refine ⟨_, rfl, p, _, rfl, dget_mixed hd, _, _, rfl, rfl, .inr ⟨by decide, by decide⟩, _, rfl, _, _, rfl, rfl, _, _, rfl, rfl, .inl ⟨_, rfl, _, _, rfl, rfl, by show (0 : Int) < 4294967291; decide, _, rfl, p, _, rfl, dput_mixed hd, ?_⟩⟩
        have E4 := W3.dset (m := (m * 75161 + wh + 11) % 4294967291) (t := t) (Int.emod_nonneg _ (by decide)) (Int.emod_lt_of_pos _ (by decide))
        exact ⟨_, _, rfl, E4.w, ⟨g3, z3, by rw [upd_ne npl.symm]; exact l3⟩, by rw [upd_ne n2p]; exact h3⟩
    · rintro σ H2 ⟨c, v, rfl, W2, _, _⟩
      exact ⟨_, rfl, k p l H2 W2⟩
def LsP (ψ : PyData → Prop) (d : PyData) : Prop := ∃ ds, d = .list ds ∧ 0 < ds.length ∧ ds.length < 1000000 ∧ ∀ x ∈ ds, ψ x
def spPick : Sp := fun vs H Q _ => ∃ (p l : Addr) (G : Hp) (a : Addr) (xs : List V), vs = [.ref p, .ref a] ∧ Wd p l G H ∧ H a = some (.lst xs) ∧ a ≠ p ∧ a ≠ l ∧ 0 < xs.length ∧ xs.length < 1000000 ∧ ∀ x H', x ∈ xs → Ext p l G H G H' → Q x H'
def spDrawn (K : PySem.W.Frag) (ψ φ : PyData → Prop) : Sp := fun vs H Q _ => ∃ (p l : Addr) (G : Hp) (v : V) (d : PyData), vs = [.ref p, v] ∧ Wd p l G H ∧ Da K G v d ∧ ψ d ∧ ∀ u e G2 H2, Ext p l G H G2 H2 → Da K G2 u e → φ e → Q u H2
theorem atI_nat2 {xs : List V} {i : Int} (h0 : 0 ≤ i) (h1 : i < xs.length) : ∃ x, atI xs i = some x ∧ x ∈ xs := by
  have hi : i.toNat < xs.length := by omega
  refine ⟨xs[i.toNat], ?_, List.getElem_mem hi⟩
  unfold atI ixN
  rw [if_pos h0, if_pos h1]
  show xs[i.toNat]? = _
  rw [List.getElem?_eq_getElem hi]
theorem D_pick (T : Txt K mg) : Df P w K mg base 2 "_law_pick" ["deck", "items"] spPick := by
  have D_l_draw := D_draw (P := P) (w := w) (base := base) T
  obtain ⟨f, fd, S⟩ := T.d_l_pick
  refine Df.mk' (k := 1) S sc_l_pick (fun vs H Q E h => ?_) (fun cdv A outer s H vs Q E hgd hr h => ?_)
  · obtain ⟨p, l, G, a, xs, rfl, _⟩ := h
    rfl
  · obtain ⟨p, l, G, a, xs, rfl, W, ha, n1, n2, h0, h1, k⟩ := h
    refine ⟨_, (pss_one (ps_ret (pe_ix ix_list (pv 1) (pe_d D_l_draw hgd hr (pa_cons (pv 0) (pa_cons (pe_callB call_len_seq (by rfl) T.b_len (by decide +kernel) (pa_cons (pv 1) pa_nil)) pa_nil))) (fun _ _ => rfl)))), ?_⟩
    refine ⟨_, rfl, _, rfl, _, rfl, a, xs, rfl, .inl (SqL.of ha), p, l, G, _, rfl, by omega, by omega, W, fun r H1 r0 r1 e => ?_⟩
    obtain ⟨x, hx, mx⟩ := atI_nat2 r0 r1
    exact ⟨a, xs, r, x, rfl, rfl, SqL.of (e.keep _ _ n1 n2 ha), hx, k x H1 mx e⟩
theorem td_pick {p l : Addr} {σ : St} {G : Hp} {ta : TE} {ψ : PyData → Prop} {i : Nat} (h : TD K p l σ G ta (LsP ψ)) (hd : σ[i]? = some (some (.ref p))) : TD K p l σ G (tCall spPick [] E0 (tCons (tVar i) (tCons ta tNil))) ψ := fun G1 H Q W s kk =>
  ⟨_, hd, h G1 H _ W s fun v d G2 H2 e da f => by
    obtain ⟨ds, rfl, z0, z1, o⟩ := f
    cases da with
    | @lst a xs _ t1 a1 =>
      have hl := a1.length
      refine ⟨p, l, G2, a, xs, rfl, e.w, e.w.same _ _ t1, fun q => ?_, fun q => ?_, by omega, by omega, fun x H3 mx e3 => ?_⟩
      · rw [q, e.w.gp] at t1
        cases t1
      · rw [q, e.w.gl] at t1
        cases t1
      · obtain ⟨d, md, dd⟩ := a1.mem mx
        exact kk x d G2 H3 (e.trans W e3) dd (o d md)⟩
theorem Ls.lsP {k n m : Nat} {d : PyData} (h : Ls k n m d) (hm : m < 1000000 := by decide) : LsP (Okd k n) d := by
  obtain ⟨ds, rfl, h0, h1, h2⟩ := h
  exact ⟨ds, rfl, h0, Nat.lt_of_le_of_lt h1 hm, h2⟩
theorem td_lstP {p l : Addr} {σ : St} {G : Hp} {tr : TA} {Φ : List PyData → Prop} (h : TDs K p l σ G tr Φ) (hz : ∀ ds, Φ ds → ds.length ≤ sizeLine) : TD K p l σ G (tLst tr) (fun d => ∃ ds, d = .list ds ∧ Φ ds) := fun G1 H Q W s k =>
  h G1 H _ W s fun vs ds G2 H2 e da f => ⟨by rw [da.length]; exact hz ds f, fun a ha => k _ _ _ _ (e.trans W (e.w.put ha)) (.lst upd_same (da.mono (e.w.put (o := .lst vs) ha).sub)) ⟨ds, rfl, f⟩⟩
theorem words_okd {ws : List Str} (h : (ws.all fun z => okB (.str z) && decide (siz (.str z) ≤ 100)) = true) {z : Str} (hz : z ∈ ws) : Okd 0 100 (.str z) := by
  rw [List.all_eq_true] at h
  have h := h z hz
  rw [Bool.and_eq_true] at h
  exact ⟨h.1, Nat.zero_le _, of_decide_eq_true h.2⟩
theorem td_mono {t : TE} {k n k2 n2 : Nat} (h : TD K p l σ G t (Okd k n)) (hk : k ≤ k2 := by decide) (hn : n ≤ n2 := by decide) : TD K p l σ G t (Okd k2 n2) := h.imp fun d f => f.mono hk hn
theorem td_drawnE {i : Nat} {ta : TE} {ψ φ : PyData → Prop} (hd : σ[i]? = some (some (.ref p))) (h : TD K p l σ G ta ψ) : TD K p l σ G (tCall (spDrawn K ψ φ) [] E0 (tCons (tVar i) (tCons ta tNil))) φ := fun G1 H Q W s kk =>
  ⟨_, hd, h G1 H _ W s fun v d G2 H2 e da f => ⟨p, l, G2, v, d, rfl, e.w, da, f, fun u z G3 H3 e3 dz fz => kk u z G3 H3 (e.trans W e3) dz fz⟩⟩
theorem td_drawn {p l : Addr} {σ : St} {G : Hp} {i j : Nat} {v : V} {d : PyData} {ψ φ : PyData → Prop} (hd : σ[i]? = some (some (.ref p))) (hv : σ[j]? = some (some v)) (da : Da K G v d) (hψ : ψ d) :
    TD K p l σ G (tCall (spDrawn K ψ φ) [] E0 (tCons (tVar i) (tCons (tVar j) tNil))) φ := fun G1 H Q W s kk =>
  ⟨_, hd, _, hv, p, l, G1, v, d, rfl, W, da.mono s, hψ, kk⟩
theorem TD.app {t : TE} {φ : PyData → Prop} (h : TD K p l σ G t φ) {H : Hp} {Q : VK} (W : Wd p l G H) (k : ∀ v d G2 H2, Ext p l G H G2 H2 → Da K G2 v d → φ d → Q v H2) : t σ H Q := h G H Q W (Same.refl G) k
theorem TDs.asgL {H : Hp} {D : Ends} {i : Nat} {tr : TA} {Φ : List PyData → Prop} (h : TDs K p l σ G tr Φ) (W : Wd p l G H) (hz : ∀ ds, Φ ds → ds.length ≤ sizeLine)
    (k : ∀ vs ds G2 H2 r, Ext p l G H G2 H2 → DaAll K G2 vs ds → Φ ds → H2 r = none → D.nx (σ.set i (some (.ref r))) (upd H2 r (.lst vs))) : tAsg (tLst tr) (gName i) D σ H :=
  h G H _ W (Same.refl G) fun vs ds G2 H2 e da f => ⟨by rw [da.length]; exact hz ds f, fun r hr => k vs ds G2 H2 r e da f hr⟩
theorem td_repG {ta : TE} {c : Int} {k n m N : Nat} (ha : TD K p l σ G ta (fun d => ∃ ds, d = .tuple ds ∧ 0 < ds.length ∧ ds.length ≤ m ∧ ∀ x ∈ ds, Okd k n x)) (hm : m ≤ 1000 := by decide) (h2 : 2 ≤ c := by decide) (h3 : c ≤ 1000 := by decide) (hN : c.toNat * m ≤ N := by decide) :
    TD K p l σ G (tOp (rRepT K) ta (tC (.int c))) (Tp k n N) := fun G1 H Q W s kk =>
  ha G1 H _ W s fun v d G2 H2 e da f => by
    obtain ⟨ds, rfl, z0, z1, o1⟩ := f
    obtain ⟨a, xs, rfl, t1, a1⟩ := da.tupI
    have hl := a1.length
    refine ⟨a, c, xs, rfl, rfl, sameT e.w.same t1, fun z => ?_, h2, h3, by omega, fun q hq => ?_⟩
    · rw [z] at hl
      have : ds.length = 0 := hl.symm
      omega
    · have e4 := e.w.put (o := .tup (List.replicate c.toNat xs).flatten) hq
      refine kk _ _ _ _ (e.trans W e4) (.tup (SqT.of upd_same) ((DaAll.flat a1 c.toNat).mono e4.sub)) ⟨_, rfl, ?_, fun z mz => ?_⟩
      · rw [PyProof.Rows.lm_len_rep_flat]
        exact Nat.le_trans (Nat.mul_le_mul_left _ z1) hN
      · rw [List.mem_flatten] at mz
        obtain ⟨r, hr, mz⟩ := mz
        rw [(List.mem_replicate.mp hr).2] at mz
        exact o1 z mz
theorem td_oneE {ta : TE} {k n : Nat} (h : TD K p l σ G ta (Okd k n)) : TD K p l σ G (tTup (tCons ta tNil)) (fun e => ∃ x, e = .tuple [x] ∧ Okd k n x) :=
  (td_tupP (tds_consP h tds_nilP) (by
    rintro ds ⟨d, r, rfl, _, rfl⟩
    show 1 ≤ sizeLine
    decide)).imp (by
    rintro e ⟨ds, rfl, d, r, rfl, h, rfl⟩
    exact ⟨d, rfl, h⟩)
theorem da_strs {K : PySem.W.Frag} {G : Hp} : ∀ ws : List Str, DaAll K G (ws.map V.str) (ws.map PyData.str)
  | [] => .nil
  | n :: ns => .cons (.str n) (da_strs ns)
theorem line16 : 16000000 ≤ sizeLine := by decide
theorem if_val {c : Bool} {a b : Int} {σ : St} {H : Hp} {Q : VK} (h : Q (.int (if c = true then a else b)) H) : if c = true then tC (.int a) σ H Q else tC (.int b) σ H Q := by
  cases c <;> exact h
def bS : Nat → Nat
  | 0 => 8000
  | n + 1 => 8 * bS n + 3000
def bD (n : Nat) : Nat := 4 + 2 * n
theorem bS_ge : ∀ n, 8000 ≤ bS n
  | 0 => Nat.le_refl _
  | n + 1 => by
    have := bS_ge n
    rw [bS]
    omega
def spOdd (K : PySem.W.Frag) (n : Nat) : Sp := fun vs H Q _ => ∃ (p l : Addr) (G : Hp), vs = [.ref p, .int (n : Int)] ∧ Wd p l G H ∧ ∀ u e G2 H2, Ext p l G H G2 H2 → Da K G2 u e → Okd (bD n) (bS n) e → Q u H2
theorem td_neg {i : Int} {k n : Nat} (h : (-i).natAbs.log2 < 1920 := by decide) (hn : 1921 ≤ n := by decide) : TD K p l σ G (tUn (rU fun i => .int (-i)) (tC (.int i))) (Okd k n) := fun G1 H Q W s kk => ⟨i, rfl, kk _ _ _ _ (Ext.refl W) (.int _) ⟨decide_eq_true h, Nat.zero_le _, hn⟩⟩
theorem td_big {k n : Nat} (hn : 1921 ≤ n := by decide) : TD K p l σ G (tOp (rI CMulW fun i j => .int (i * j)) (tOp (rI CPow fun i j => .int (i ^ j.toNat)) (tC (.int 10)) (tC (.int 60))) (tOp (rI CPow fun i j => .int (i ^ j.toNat)) (tC (.int 10)) (tC (.int 60)))) (Okd k n) := fun G1 H Q W s kk => by
  refine ⟨10, 60, rfl, rfl, ⟨by decide, by decide, by decide⟩, 10, 60, rfl, rfl, ⟨by decide, by decide, by decide⟩, _, _, rfl, rfl, wide_mul (a := 240) (b := 240) (by decide +kernel) (by decide +kernel) (by decide) (by decide) (by decide), ?_⟩
  exact kk _ _ _ _ (Ext.refl W) (.int _) ⟨by decide +kernel, Nat.zero_le _, hn⟩
theorem tw_draw {i : Nat} {c : Int} (hd : σ[i]? = some (some (.ref p))) (h0 : 1 ≤ c) (h1 : c < 1000) : TW p l σ G (iRng1 (tCons (tCall spDraw [] E0 (tCons (tVar i) (tCons (tC (.int c)) tNil))) tNil)) (fun N => (N : Int) < c) := fun G1 H R W s k =>
  ⟨_, hd, p, l, G1, c, rfl, by omega, by omega, W, fun r H1 r0 r1 e => ⟨r, rfl, by omega, by omega, k _ _ _ (by omega) e⟩⟩
theorem td_oddrec {n i j : Nat} (hd : σ[i]? = some (some (.ref p))) (hj : σ[j]? = some (some (.int ((n + 1 : Nat) : Int)))) :
    TD K p l σ G (tCall (spOdd K n) [] E0 (tCons (tVar i) (tCons (tOp (rI0 fun i j => .int (i - j)) (tVar j) (tC (.int 1))) tNil))) (Okd (bD n) (bS n)) := fun G1 H Q W s kk => by
  refine ⟨_, hd, _, hj, _, _, rfl, rfl, p, l, G1, ?_, W, kk⟩
  show [V.ref p, V.int (((n + 1 : Nat) : Int) - 1)] = _
  rw [show ((n + 1 : Nat) : Int) - 1 = (n : Int) by omega]
theorem merge2 (a b : V) : mergeK [] [(.inr "x", a), (.inl 3, b)] = [(.inr "x", a), (.inl 3, b)] := by
  simp [mergeK, putK]
theorem td_dictX {i M k n : Nat} {v : V} {ds : List PyData} (hi : σ[i]? = some (some v)) (da : Da K G v (.list ds)) (hl : ds.length ≤ M) (ho : ∀ x ∈ ds, Okd k n x) :
    TD K p l σ G (tDisp [(tC (.str "x"), tVar i), (tC (.int 3), tCB (fun xs H Q => ∃ p ys, xs = [.ref p] ∧ ((SqL K H p ys ∧ ∀ l, H l = none → Q (.ref l) (upd H l (.tup ys))) ∨ (SqT K H p ys ∧ Q (.ref p) H))) (tCons (tVar i) tNil))])
      (Okd (k + 2) (2 * ((n + 2) * M + 3) + 2000)) := fun G1 H Q W s kk => fun q hq => by
  cases da with
  | @lst a xs _ t1 a1 =>
    have nqp := W.np hq
    have nql := W.nl hq
    have E1 := W.tmp (o := .dK []) hq
    have ga : G1 a = some (.lst xs) := s _ _ t1
    have haq : H a = some (.lst xs) := W.same _ _ ga
    refine ⟨_, hi, _, hi, a, xs, rfl, .inl ⟨SqL.of (E1.w.same _ _ ga), fun t ht => ?_⟩⟩
    have ntq : q ≠ t := fun z => by
      rw [← z, upd_same] at ht
      cases ht
    have E2 := E1.w.put (o := .tup xs) ht
    refine ⟨by rw [upd_ne ntq, upd_same], [(.inr "x", .ref a), (.inl 3, .ref t)], rfl, by show 2 ≤ 15; decide, ?_⟩
    rw [merge2]
    have gq : (upd G1 t (.tup xs)) q = none := by
      rw [upd_ne ntq]
      exact W.same.free hq
    have w3 := E2.w.own (o := .dK [(.inr "x", .ref a), (.inl 3, .ref t)]) nqp nql gq
    obtain ⟨w4, s4⟩ := w3.hold nqp nql gq upd_same
    have s1 : Same G1 (upd G1 t (.tup xs)) := E2.sub
    have dl : Da K (upd (upd G1 t (.tup xs)) q (.dK [(.inr "x", .ref a), (.inl 3, .ref t)])) (.ref a) (.list ds) := .lst (s4 _ _ (s1 _ _ ga)) (a1.mono ((s.trans s1).trans s4))
    have dt : Da K (upd (upd G1 t (.tup xs)) q (.dK [(.inr "x", .ref a), (.inl 3, .ref t)])) (.ref t) (.tuple ds) := .tup (sameT s4 (SqT.of upd_same)) (a1.mono ((s.trans s1).trans s4))
    refine kk _ _ _ _ ⟨w4, s1.trans s4, fun b o n1 n2 h => ?_, fun b o h g => ?_⟩ (Da.dct (kvs := [(.inr "x", .ref a), (.inl 3, .ref t)]) (ds := [.list ds, .tuple ds]) upd_same (.cons dl (.cons dt .nil))) ?_
    · have nb := ne_of_none h hq
      rw [upd_ne nb]
      exact E2.keep b o n1 n2 (by rw [upd_ne nb]; exact h)
    · have nb := ne_of_none h hq
      rw [upd_ne nb]
      exact E2.new b o (by rw [upd_ne nb]; exact h) g
    · have o1 := Okd.list (N := (n + 2) * M + 3) ho hl (Nat.le_refl _)
      have o2 := Okd.tup (N := (n + 2) * M + 3) ho hl (Nat.le_refl _)
      have i3 : okB (.int 3) = true := by decide
      have sx : okB (.str "x") = true := by decide +kernel
      have e : ((([(.inr "x", V.ref a), (.inl 3, V.ref t)] : List (Key × V)).map fun p => keyD p.1).zip [PyData.list ds, .tuple ds]) = [(.str "x", .list ds), (.int 3, .tuple ds)] := rfl
      rw [e]
      refine ⟨?_, ?_, ?_⟩
      · rw [okB, okKv, okKv, okKv, i3, sx, o1.ok, o2.ok]
        rfl
      · have h1 := o1.dp
        have h2 := o2.dp
        simp only [PyData.depth, PyData.depthKv] at h1 h2 ⊢
        omega
      · have h1 := o1.sz
        have h2 := o2.sz
        have e1 : siz (.str "x") = 12 := by decide +kernel
        show (siz (.str "x") + siz (.list ds) + 4 + (1921 + siz (.tuple ds) + 4 + 0)) + 2 ≤ _
        omega
theorem D_odd_step (T : Txt K mg) {n k : Nat} {spR : Sp} (hk : 2 ≤ k) (D_l_odd_value : Df P w K mg base k "_law_odd_value" ["deck", "deep"] spR) (hR : ∀ m, n = m + 1 → spR = spOdd K m) : Df P w K mg base (k + 1) "_law_odd_value" ["deck", "deep"] (spOdd K n) := by
  have D_l_draw := (D_draw (P := P) (w := w) (base := base) T).mono (k := k) (by omega)
  have D_l_pick := (D_pick (P := P) (w := w) (base := base) T).mono (k := k) hk
  obtain ⟨f, fd, S⟩ := T.d_l_odd_value
  refine Df.mk' (k := k) S sc_l_odd_value (fun vs H Q E h => ?_) (fun cdv A outer s H vs Q E hgd hr h => ?_)
  · obtain ⟨p, l, G, rfl, _⟩ := h
    rfl
  · obtain ⟨p, l, G, rfl, W, kk⟩ := h
    refine ⟨_, (pss_cons (ps_set (i := 2) sc_l_odd_value.nd rfl (.inl rfl) (pe_d D_l_draw hgd hr (pa_cons (pv 0) (pa_cons (pe_ifExp (pt_cmpR op_gt (pv 1) pe_int (nomark _)) pe_int pe_int) pa_nil))))
      (pss_cons (ps_if (pt_cmpR op_lt (pv 2) pe_int (nomark _)) (pss_cons (ps_set (i := 3) sc_l_odd_value.nd rfl (.inl rfl) (pe_lst (pa_cons pe_non (pa_cons pe_bl (pa_cons pe_bl (pa_cons pe_int (pa_cons pe_int (pa_cons (pe_un un_neg pe_int) (pa_cons (pe_op op_mulW (pe_op op_pow pe_int pe_int) (pe_op op_pow pe_int pe_int)) (pa_cons pe_str (pa_cons pe_str (pa_cons pe_str (pa_cons pe_str (pa_cons pe_str (pa_cons (pe_tup pa_nil) (pa_cons (pe_lst pa_nil) (pa_cons pe_dnewK (pa_cons pe_str pa_nil))))))))))))))))))
      (pss_one (ps_ret (pe_d D_l_pick hgd hr (pa_cons (pv 0) (pa_cons (pe_op op_cat (pv 3) (pe_lst (pa_cons (pe_tup (pa_cons pe_str (pa_cons pe_str pa_nil))) (pa_cons (pe_tup (pa_cons (pe_tup pa_nil) (pa_cons (pe_tup pa_nil) pa_nil))) (pa_cons (pe_tup (pa_cons (pe_tup (pa_cons (pe_tup pa_nil) (pa_cons (pe_tup pa_nil) pa_nil))) pa_nil)) (pa_cons (pe_tup (pa_cons (pe_tup (pa_cons pe_str (pa_cons pe_int pa_nil))) pa_nil)) (pa_cons (pe_tup (pa_cons (pe_tup (pa_cons pe_int (pa_cons pe_int pa_nil))) pa_nil)) (pa_cons (pe_tup (pa_cons pe_str (pa_cons pe_str (pa_cons pe_str pa_nil)))) pa_nil)))))))) pa_nil)))))) pss_nil)
      (pss_cons (ps_setLc (i := 4) (own := [("turn", 5)]) (g := gName 5) (tt := tYes) rfl sc_l_odd_value.nd rfl rfl (sw_true rfl rfl rfl (by decide +kernel)) (pi_range1 rfl T.b_range (pa_cons (pe_d D_l_draw hgd hr (pa_cons (pv 0) (pa_cons pe_int pa_nil))) pa_nil)) (blkOk_by (own := [("turn", 5)]) (N := ["deck", "deep", "way", "plain", "inner", "turn"]) (sc := defScope s_l_odd_value) (by decide +kernel)) (fun _ _ _ _ _ => pg_name (i := 5) sc_l_odd_value.nd rfl (.inl rfl)) (fun _ _ _ _ _ => pts_nil) (fun _ _ _ _ _ => (pe_d D_l_odd_value hgd hr (pa_cons (pv 0) (pa_cons (pe_op op_sub (pv 1) pe_int) pa_nil)))))
      (pss_cons (ps_if (pt_cmpR op_lt (pv 2) pe_int (nomark _)) (pss_one (ps_ret (pe_callTy call_tuple_of (by rfl) T.b_tuple (by decide +kernel) (pa_cons (pv 4) pa_nil)))) pss_nil)
      (pss_one (ps_ret (pe_ifExp (pt_cmpR op_eq (pv 2) pe_int (nomark _)) (pv 4) (pe_disp (pps_cons pe_str (pv 4) (pps_cons pe_int (pe_callTy call_tuple_of (by rfl) T.b_tuple (by decide +kernel) (pa_cons (pv 4) pa_nil)) pps_nil)) (by rfl) (by rfl) (fun z => by cases z) (by decide))))))))), ?_⟩
    refine ⟨_, rfl, _, rfl, _, _, rfl, rfl, _, rfl, if_val ?_⟩
    refine ⟨p, l, G, _, rfl, by split <;> decide, by split <;> decide, W, fun r H1 r0 r1 e => ?_⟩
    refine ⟨_, rfl, _, _, rfl, rfl, _, rfl, ite2 (fun h7 => ?_) (fun h7 => ?_)⟩
    · refine TD.asg (K := K) (p := p) (l := l) (G := G) (φ := Ls 3 4000 16) ?h1 e.w (fun v d G2 H2 e2 da f => ?k1)
      case h1 =>
        exact td_lst (tds_cons td_non (tds_cons td_bl (tds_cons td_bl (tds_cons td_int (tds_cons td_int (tds_cons td_neg (tds_cons td_big (tds_cons td_str (tds_cons td_str (tds_cons td_str (tds_cons td_str (tds_cons td_str
          (tds_cons td_tup0O (tds_cons td_lst0 (tds_cons td_dict0 (tds_cons td_str tds_nil))))))))))))))))
      case k1 =>
        dsimp only
        refine TD.ret (K := K) (p := p) (l := l) (G := G2) (φ := Okd 3 4000) ?h2 e2.w (fun u z G3 H3 e3 dz fz => ?k2)
        case h2 =>
          refine td_pick (TD.imp (td_cat (td_var rfl da f) (td_lst (tds_cons (td_tupO (k := 0) (n := 100) (tds_cons td_str (tds_cons td_str tds_nil)))
            (tds_cons (td_tupO (k := 1) (n := 3) (tds_cons td_tup0O (tds_cons td_tup0O tds_nil)))
            (tds_cons (td_tupO (k := 2) (n := 13) (tds_cons (td_tupO (k := 1) (n := 3) (tds_cons td_tup0O (tds_cons td_tup0O tds_nil))) tds_nil))
            (tds_cons (td_tupO (k := 1) (n := 3849) (tds_cons (td_tupO (k := 0) (n := 1921) (tds_cons td_str (tds_cons td_int tds_nil))) tds_nil))
            (tds_cons (td_tupO (k := 1) (n := 3849) (tds_cons (td_tupO (k := 0) (n := 1921) (tds_cons td_int (tds_cons td_int tds_nil))) tds_nil))
            (tds_cons (td_tupO (k := 0) (n := 100) (tds_cons td_str (tds_cons td_str (tds_cons td_str tds_nil)))) tds_nil)))))))) fun d h => h.lsP) rfl
        case k2 =>
          have b1 := bS_ge n
          exact kk u z G3 H3 ((e.trans W e2).trans W e3) dz (fz.mono (by unfold bD; omega) (by omega))
    · have h7 : ¬ r < 7 := of_decide_eq_false (Bool.eq_false_iff.mpr h7)
      obtain ⟨m, rfl⟩ : ∃ m, n = m + 1 := by
        cases n with
        | succ m => exact ⟨m, rfl⟩
        | zero =>
          have r1 : r < 7 := r1
          exact absurd r1 h7
      obtain rfl := hR m rfl
      dsimp only [tNext]
      refine TD.asg (K := K) (p := p) (l := l) (G := G) (φ := LsN (fun N => N ≤ 3) (Okd (bD m) (bS m))) ?h1 e.w (fun v d G2 H2 e2 da f => ?k1)
      case h1 => exact TD.imp (td_lc (M := 3) (tw_draw rfl (by decide) (by decide)) (fun N hN => by omega) (by decide) (fun i => td_oddrec rfl rfl)) fun d ⟨ds, e1, e2, e3⟩ => ⟨ds, e1, by omega, e3⟩
      case k1 =>
        obtain ⟨ds, rfl, dl, do_⟩ := f
        have E2 := e.trans W e2
        have hb : bS (m + 1) = 8 * bS m + 3000 := rfl
        have b0 := bS_ge m
        refine ⟨_, rfl, _, _, rfl, rfl, _, rfl, ite2 (fun h9 => ?_) (fun h9 => ?_)⟩
        · refine TD.run (K := K) (p := p) (l := l) (G := G2) (φ := fun d => ∃ ds, d = .tuple ds ∧ ds.length ≤ 3 ∧ ∀ x ∈ ds, Okd (bD m) (bS m) x) ?h2 e2.w (fun u z G3 H3 e3 dz fz => ?k2)
          case h2 => exact td_tupleN (ν := fun N => N ≤ 3) (td_var rfl da ⟨ds, rfl, dl, do_⟩)
          case k2 =>
            obtain ⟨es, rfl, el, eo⟩ := fz
            exact kk u _ G3 H3 (E2.trans W e3) dz ((Okd.tup eo el (Nat.le_refl _)).mono (by unfold bD; omega) (by omega))
        · refine ⟨_, rfl, rfl, _, rfl, ite2 (fun h8 => ?_) (fun h8 => ?_)⟩
          · exact ⟨_, rfl, kk v _ G2 H2 E2 da ((Okd.list do_ dl (Nat.le_refl _)).mono (by unfold bD; omega) (by omega))⟩
          · refine TD.run (K := K) (p := p) (l := l) (G := G2) (φ := Okd (bD m + 2) (2 * ((bS m + 2) * 3 + 3) + 2000)) ?h3 e2.w (fun u z G3 H3 e3 dz fz => ?k3)
            case h3 => exact td_dictX rfl da dl do_
            case k3 => exact kk u z G3 H3 (E2.trans W e3) dz (fz.mono (by unfold bD; omega) (by omega))
theorem D_odd (T : Txt K mg) : ∀ n : Nat, Df P w K mg base (3 + n) "_law_odd_value" ["deck", "deep"] (spOdd K n)
  | 0 => by
    have none : Df P w K mg base 2 "_law_odd_value" ["deck", "deep"] (fun _ _ _ _ => False) := by
      obtain ⟨f, fd, S⟩ := T.d_l_odd_value
      exact ⟨f, fd, ⟨fun _ _ _ _ h => h.elim, fun _ _ _ _ _ _ _ _ _ _ _ _ _ _ h => h.elim⟩, S.at_, S.fn.kp, S.bd⟩
    exact D_odd_step T (Nat.le_refl _) none fun m h => absurd h (by omega)
  | n + 1 => D_odd_step T (k := 3 + n) (show 2 ≤ 3 + n by omega) (D_odd T n) fun m h => by
    have e : n = m := by omega
    rw [e]
def spB (K : PySem.W.Frag) (f : PyData → Bool) : Sp := fun vs H Q _ => ∃ v d, vs = [v] ∧ Da K H v d ∧ Fit d ∧ ∀ H', Same H H' → Q (.bl (f d)) H'
theorem bools (f : Nat → Bool) (l : List Nat) : (l.map fun c => V.bl (f c)) = (l.map f).map V.bl := by rw [List.map_map]; rfl
end
end L2.Hx

/-! Stores and heaps: the law's look at a name and at a number. -/
namespace L2.Hx
open PySem PySem.Spec PyProof.Rows
theorem str_or : ∀ d : PyData, (∃ z, d = .str z) ∨ isStr d = false
  | .str z => .inl ⟨z, rfl⟩
  | .none => .inr rfl
  | .bool _ => .inr rfl
  | .int _ => .inr rfl
  | .tuple _ => .inr rfl
  | .list _ => .inr rfl
  | .dict _ => .inr rfl
def sign (c : Nat) : Str := ⟨#[c]⟩
theorem dp_signs {K : PySem.W.Frag} {H : Hp} : ∀ cs : List Nat, DpAll K H (cs.map fun c => V.str (sign c)) (cs.map fun c => PyData.str (sign c))
  | [] => .nil
  | n :: ns => .cons (.str _) (dp_signs ns)
theorem shaped_signs (cs : List Nat) (h : ∀ c ∈ cs, c < 1114112) : SeqAt.shaped (.list (cs.map fun c => PyData.str (sign c))) = true := by
  have h1 : PyData.canLayAll0 (cs.map fun c => PyData.str (sign c)) = true := by
    induction cs with
    | nil => rfl
    | cons n ns ih =>
      have e : PyData.strOk (sign n) = true := by
        have := h n List.mem_cons_self
        simp [PyData.strOk, sign, this]
      have ih := ih fun c m => h c (List.mem_cons_of_mem _ m)
      simpa [PyData.canLayAll0, PyData.canLay0, e] using ih
  have h2 : PyData.depthAll (cs.map fun c => PyData.str (sign c)) ≤ 1 := depthAll_le fun x m => by
    obtain ⟨c, _, rfl⟩ := List.mem_map.mp m
    simp [PyData.depth]
  unfold SeqAt.shaped
  rw [Bool.and_eq_true]
  refine ⟨by simpa [PyData.canLay0] using h1, decide_eq_true ?_⟩
  simp only [PyData.depth]
  omega
theorem eqv_nilS (cs : List Nat) : PyData.eqv (.list (cs.map fun c => PyData.str (sign c))) (.list []) = decide (cs = []) := by
  cases cs <;> simp [PyData.eqv, PyData.eqvAll]
theorem letters_filter (z : Str) : (z.cps.toList.filter (fun c => !decide (c ∈ abc)) = []) ↔ letters z = true := by
  unfold letters
  rw [List.filter_eq_nil_iff, List.all_eq_true]
  refine ⟨fun h c m => ?_, fun h c m => ?_⟩
  · have := h c m
    simpa using this
  · have := h c m
    simpa using this
def isI : PyData → Bool
  | .int _ => true
  | .bool _ => true
  | _ => false
def isB : PyData → Bool
  | .bool _ => true
  | _ => false
/-- isinstance(x, int), isinstance(x, bool), x any datum -/
def rIsiA (K : PySem.W.Frag) : List V → Hp → VK → Prop := fun xs H Q => ∃ (x : V) (d : PyData) (G : Hp), Same G H ∧ Da K G x d ∧ ((xs = [x, .ty "int"] ∧ Q (.bl (isI d)) H) ∨ (xs = [x, .ty "bool"] ∧ Q (.bl (isB d)) H))
theorem kitB_int : ∀ d : PyData, kitB (tyD d) "int" = some (isI d)
  | .none => show kitB "NoneType" "int" = some false by decide +kernel
  | .bool _ => show kitB "bool" "int" = some true by decide +kernel
  | .int _ => show kitB "int" "int" = some true by decide +kernel
  | .str _ => show kitB "str" "int" = some false by decide +kernel
  | .list _ => show kitB "list" "int" = some false by decide +kernel
  | .tuple _ => show kitB "tuple" "int" = some false by decide +kernel
  | .dict _ => show kitB "dict" "int" = some false by decide +kernel
theorem kitB_bool : ∀ d : PyData, kitB (tyD d) "bool" = some (isB d)
  | .none => show kitB "NoneType" "bool" = some false by decide +kernel
  | .bool _ => show kitB "bool" "bool" = some true by decide +kernel
  | .int _ => show kitB "int" "bool" = some false by decide +kernel
  | .str _ => show kitB "str" "bool" = some false by decide +kernel
  | .list _ => show kitB "list" "bool" = some false by decide +kernel
  | .tuple _ => show kitB "tuple" "bool" = some false by decide +kernel
  | .dict _ => show kitB "dict" "bool" = some false by decide +kernel
theorem call_isiA {X : Cx} : CallR X (.builtin "isinstance") (rIsiA X.K) := by
  intro pins s σ H xs us Q I r h
  obtain ⟨x, d, G, sm, hd, h⟩ := h
  rcases h with ⟨rfl, q⟩ | ⟨rfl, q⟩
  · obtain ⟨u1, u2, rfl, r1, r2⟩ := vals2 r
    cases r2
    obtain ⟨P, Z, p, hx⟩ := kit_da I sm hd r1
    exact PySem.W.kia_one Z I.kIn p (kit_ty (kitB_int d)) hx fun tk => ⟨.bl _, H, I.tok tk, rfl, q⟩
  · obtain ⟨u1, u2, rfl, r1, r2⟩ := vals2 r
    cases r2
    obtain ⟨P, Z, p, hx⟩ := kit_da I sm hd r1
    exact PySem.W.kia_one Z I.kIn p (kit_ty (kitB_bool d)) hx fun tk => ⟨.bl _, H, I.tok tk, rfl, q⟩
def w_lw : List Str := ["fun", "head", "foot", "with", "var", "if", "else", "while", "keep", "new", "free", "any", "cell", "list", "empty", "is", "isnt"]
theorem lw_split : Txt.words "fun head foot with var if else while keep new free any cell list empty is isnt" = w_lw := by decide +kernel
/-- an integer from a least one on -/
def fromD (least : Int) : PyData → Bool
  | .int i => decide (i ≥ least)
  | _ => false
/-- a name of stores -/
def nameS : PyData → Bool
  | .str z => lenOk z && (!decide (z = ("nil" : Str)) && (!decide (z ∈ w_lw) && letters z))
  | _ => false
def spWords : Sp := fun vs H Q _ => vs = [] ∧ ∀ a, H a = none → Q (.ref a) (upd H a (.lst (w_lw.map V.str)))
def spFrom (K : PySem.W.Frag) : Sp := fun vs H Q _ => ∃ v d least, vs = [v, .int least] ∧ Da K H v d ∧ ∀ H', Same H H' → Q (.bl (fromD least d)) H'
section
variable {P : Program} {w : World} {K : PySem.W.Frag} {mg : Str → Option Value} {base : Heap}
theorem D_l_words (T : Txt K mg) : Df P w K mg base 1 "_law_words" [] spWords := by
  obtain ⟨f, fd, S⟩ := T.d_l_words
  refine Df.mk' (k := 0) S sc_l_words (fun vs H Q E h => ?_) (fun cdv A outer s H vs Q E hgd hr h => ?_)
  · obtain ⟨rfl, _⟩ := h
    rfl
  · obtain ⟨rfl, k⟩ := h
    refine ⟨_, (pss_one (ps_ret (pe_words pe_str (by rfl)))), ?_⟩
    refine ⟨⟨_, rfl⟩, _, rfl, rfl, by decide +kernel, fun a ha => ?_⟩
    rw [lw_split]
    exact k a ha
theorem D_l_is_from (T : Txt K mg) : Df P w K mg base 1 "_law_is_from" ["value", "least"] (spFrom K) := by
  obtain ⟨f, fd, S⟩ := T.d_l_is_from
  refine Df.mk' (k := 0) S sc_l_is_from (fun vs H Q E h => ?_) (fun cdv A outer s H vs Q E hgd hr h => ?_)
  · obtain ⟨v, d, least, rfl, _⟩ := h
    rfl
  · obtain ⟨v, d, least, rfl, hd, k⟩ := h
    refine ⟨_, (pss_one (ps_ret (pe_and (pe_callB call_isiA (by rfl) T.b_isinstance (by decide +kernel) (pa_cons (pv 0) (pa_cons (pe_bT (n := "int") T.b_int (by decide +kernel)) pa_nil))) (pe_and (pe_not (pe_callB call_isiA (by rfl) T.b_isinstance (by decide +kernel) (pa_cons (pv 0) (pa_cons (pe_bT (n := "bool") T.b_bool (by decide +kernel)) pa_nil)))) (pe_one (pe_cmpR op_ge (pv 0) (pv 1) (nomark _))))))), ?_⟩
    have go := k H (Same.refl H)
    refine ⟨_, rfl, v, d, H, Same.refl H, hd, .inl ⟨rfl, _, rfl, iteB (fun h1 => ?_) (fun h1 => ?_)⟩⟩
    · refine ⟨_, rfl, v, d, H, Same.refl H, hd, .inr ⟨rfl, _, rfl, _, rfl, iteNot (fun h2 => ?_) (fun h2 => ?_)⟩⟩
      · cases d with
        | int i =>
          cases hd
          exact ⟨_, rfl, _, rfl, _, _, rfl, rfl, go⟩
        | bool b => cases h2
        | none => cases h1
        | str z => cases h1
        | tuple ds => cases h1
        | list ds => cases h1
        | dict kvs => cases h1
      · cases d with
        | bool b => exact go
        | int i => cases h2
        | none => cases h2
        | str z => cases h2
        | tuple ds => cases h2
        | list ds => cases h2
        | dict kvs => cases h2
    · cases d with
      | bool b => cases h1
      | int i => cases h1
      | none => exact go
      | str z => exact go
      | tuple ds => exact go
      | list ds => exact go
      | dict kvs => exact go
theorem nameS_no {d : PyData} (h : isStr d = false) : nameS d = false := by
  cases d with
  | str z => cases h
  | _ => rfl
theorem D_l_is_name (T : Txt K mg) : Df P w K mg base 2 "_law_is_name" ["value"] (spB K nameS) := by
  have D_l_words := D_l_words (P := P) (w := w) (base := base) T
  obtain ⟨f, fd, S⟩ := T.d_l_is_name
  refine Df.mk' (k := 1) S sc_l_is_name (fun vs H Q E h => ?_) (fun cdv A outer s H vs Q E hgd hr h => ?_)
  · obtain ⟨v, d, rfl, _⟩ := h
    rfl
  · obtain ⟨v, d, rfl, hd, hz, k⟩ := h
    refine ⟨_, (pss_cons (ps_if (PW.pt (pw_or (pt_not (pt_val (pe_callB call_isiD (by rfl) T.b_isinstance (by decide +kernel) (pa_cons (pv 0) (pa_cons (pe_bT (n := "str") T.b_str (by decide +kernel)) pa_nil))))) (pw_or (pt_not (pt_chain op_le op_le pe_int (pe_callB call_len_str (by rfl) T.b_len (by decide +kernel) (pa_cons (pv 0) pa_nil)) pe_int)) (pw_or (pt_cmpR op_eq (pv 0) pe_str (nomark _)) (pw_or1 (pt_cmpR (op_inW hr.units) (pv 0) (pe_d0 D_l_words hgd hr) (by rfl))))))) (pss_one (ps_ret pe_bl)) pss_nil)
      (pss_one (ps_ret (pe_cmpR (op_eqD hr.units) (pe_lc (own := [("sign", 1)]) (g := gName 1) rfl sc_l_is_name.nd (pi_str (pv 0)) (blkOk_by (own := [("sign", 1)]) (N := ["value", "sign"]) (sc := defScope s_l_is_name) (by decide +kernel)) (fun _ _ _ _ _ => pg_name (i := 1) sc_l_is_name.nd rfl (.inl rfl)) (fun _ _ _ _ _ => (pts_one (pt_cmpR op_notIn_sign (pv 1) pe_str (by rfl)))) (fun _ _ _ _ _ => (pv 1))) (pe_lst pa_nil) (nomark _))))), ?_⟩
    refine ⟨_, rfl, v, d, H, Same.refl H, hd, .inr ⟨rfl, _, rfl, ?_⟩⟩
    rcases str_or d with ⟨z, rfl⟩ | hn
    · obtain rfl := hd.strI
      have hl : z.length ≤ sizeLine := Nat.le_trans (siz_str z) hz.sz
      have e0 : nameS (.str z) = (lenOk z && (!decide (z = ("nil" : Str)) && (!decide (z ∈ w_lw) && letters z))) := rfl
      refine iteF ⟨_, rfl, z, rfl, hl, _, _, rfl, rfl, _, rfl, ite2 (fun h1 => ?_) (fun h1 => ?_)⟩
      · refine ⟨_, _, rfl, rfl, _, rfl, iteNot (fun h2 => ?_) (fun h2 => ?_)⟩
        · rw [lenOk, h2, Bool.and_false, Bool.false_and] at e0
          rw [e0] at k
          exact k _ (Same.refl H)
        · rw [lenOk, h1, h2, Bool.true_and, Bool.true_and] at e0
          have h8 : (z.length : Int) ≤ 8 := of_decide_eq_true h2
          refine ⟨_, rfl, rfl, _, rfl, iteB (fun h3 => ?_) (fun h3 => ?_)⟩
          · have en : z = ("nil" : Str) := V.str.inj (of_decide_eq_true h3)
            rw [decide_eq_true en, Bool.not_true, Bool.false_and] at e0
            rw [e0] at k
            exact k _ (Same.refl H)
          · have en : ¬ z = ("nil" : Str) := fun e => of_decide_eq_false h3 (by rw [e])
            rw [decide_eq_false en, Bool.not_false, Bool.true_and] at e0
            refine ⟨_, rfl, rfl, fun a ha => ⟨a, w_lw, .str z, _, rfl, .inl (SqL.of upd_same), Same.refl _, .str z, _, rfl, ?_⟩⟩
            have qa : Same H (upd H a (.lst (w_lw.map V.str))) := sameAdd ha
            generalize upd H a (.lst (w_lw.map V.str)) = Ha at qa ⊢
            show if decide (z ∈ w_lw) = true then _ else _
            refine iteB (fun h4 => ?_) (fun h4 => ?_)
            · rw [h4, Bool.not_true, Bool.false_and] at e0
              rw [e0] at k
              exact k _ qa
            · rw [h4, Bool.not_false, Bool.true_and] at e0
              refine ⟨_, rfl, z, rfl, fun D hD => lc_it walk_str (fun i H' => Same Ha H' ∧ H' D = some (.lst (((z.cps.toList.take i).filter fun c => !decide (c ∈ abc)).map fun c => V.str (sign c)))) ⟨sameAdd hD, upd_same⟩ (fun _ _ _ _ => trivial) ?_ ?_⟩
              · rintro i x H1 H1' hi ⟨p1, p2⟩ ⟨rfl, c, hc, rfl⟩
                have hc2 : z.cps.toList[i]? = some c := by rw [Array.getElem?_toList]; exact hc
                have ez : z.length = z.cps.size := rfl
                have et : (z.cps.toList.take (i + 1)).filter (fun c => !decide (c ∈ abc)) = (z.cps.toList.take i).filter (fun c => !decide (c ∈ abc)) ++ if (!decide (c ∈ abc)) = true then [c] else [] := by
                  rw [List.take_add_one, hc2, Option.toList_some, List.filter_append, List.filter_cons, List.filter_nil]
                refine ⟨rfl, _, rfl, c, _, rfl, rfl, _, rfl, ?_⟩
                show if (!decide (c ∈ abc)) = true then _ else _
                refine iteB (fun h5 => ?_) (fun h5 => ?_)
                · rw [h5, if_pos rfl] at et
                  refine ⟨_, rfl, _, p2, ?_, sameOut p1 hD, ?_⟩
                  · rw [List.length_map]
                    exact small1000 (Nat.le_trans (List.length_filter_le _ _) (by rw [List.length_take]; omega))
                  · rw [upd_same, et, List.map_append]
                    rfl
                · rw [h5, if_neg Bool.false_ne_true, List.append_nil] at et
                  exact ⟨p1, by rw [et]; exact p2⟩
              · rintro H1 ⟨p1, p2⟩
                rw [show z.cps.size = z.cps.toList.length by simp, List.take_length] at p2
                refine ⟨Nat.zero_le _, fun q hq => ?_⟩
                have hDq : D ≠ q := ne_of_none p2 hq
                have p3 : upd H1 q (.lst []) D = _ := (upd_ne hDq).trans p2
                refine ⟨_, _, .lst (SqL.of p3) (dp_signs _), .lst (SqL.of upd_same) .nil, shaped_signs _ (fun c m => ?_), rfl, ?_⟩
                · have h9 : (z.cps.toList.all fun c => decide (c < 1114112)) = true := hz.ok
                  rw [List.all_eq_true] at h9
                  exact of_decide_eq_true (h9 c (List.mem_filter.mp m).1)
                · rw [eqv_nilS]
                  have e5 : decide (z.cps.toList.filter (fun c => !decide (c ∈ abc)) = []) = letters z := by
                    cases e : letters z with
                    | true => exact decide_eq_true ((letters_filter z).mpr e)
                    | false =>
                      refine decide_eq_false fun q => ?_
                      rw [(letters_filter z).mp q] at e
                      cases e
                  rw [e5, ← e0]
                  exact k _ ((qa.trans p1).trans (sameAdd hq))
      · have h1' : decide (1 ≤ (z.length : Int)) = false := Bool.eq_false_iff.mpr h1
        rw [lenOk, h1', Bool.false_and, Bool.false_and] at e0
        rw [e0] at k
        exact ⟨_, rfl, k _ (Same.refl H)⟩
    · rw [nameS_no hn] at k
      rw [hn]
      exact k _ (Same.refl H)
end
end L2.Hx

/-! Stores and heaps: what is due of a value. -/
namespace L2.Hx
open PySem PySem.Spec PyProof.Rows
theorem tup_or : ∀ d : PyData, (∃ ds, d = .tuple ds) ∨ isTup d = false
  | .tuple ds => .inl ⟨ds, rfl⟩
  | .none => .inr rfl
  | .bool _ => .inr rfl
  | .int _ => .inr rfl
  | .str _ => .inr rfl
  | .list _ => .inr rfl
  | .dict _ => .inr rfl
theorem len2 {α : Type} {xs : List α} (h : xs.length = 2) : ∃ a b, xs = [a, b] := by
  match xs, h with
  | [a, b], _ => exact ⟨a, b, rfl⟩
theorem drop_get {α : Type} {l : List α} {i : Nat} {x : α} (h : l[i]? = some x) : l.drop i = x :: l.drop (i + 1) := by
  obtain ⟨hi, e⟩ := List.getElem?_eq_some_iff.mp h
  rw [List.drop_eq_getElem_cons hi, e]
theorem vint {a b : Int} (h : V.int a = V.int b) : a = b := by
  cases h
  rfl
theorem len_of {n : Nat} {m : Int} (h : decide (V.int (n : Int) = V.int m) = true) : (n : Int) = m := vint (of_decide_eq_true h)
theorem len_not {n : Nat} {m : Int} (h : decide (V.int (n : Int) = V.int m) = false) : (n : Int) ≠ m := fun e => of_decide_eq_false h (congrArg V.int e)
/-- not (a if c else b), a test of tests -/
def tIfT (tc ta tb : TT) : TT := fun σ H Q => tc σ H fun k H1 => if k = true then ta σ H1 Q else tb σ H1 Q
theorem pt_ifExp {X : Cx} {c a b : Expr} {pos : Pos} {tc ta tb : TT} (hc : PT X c tc) (ha : PT X a ta) (hb : PT X b tb) : PT X (.IfExp c a b pos) (tIfT tc ta tb) := by
  refine ⟨fun pins s σ H Q I h => ?_⟩
  show wpAny _ _ (isTrue (.IfExp c a b pos) X.env _) _ _ _
  rw [PySem.arm_isTrue_IfExp]
  refine wpAny_bind (thn (hc.run pins s σ H _ I h) fun k s1 ⟨H1, I1, q1⟩ => ?_)
  cases k with
  | true => exact ha.run pins s1 σ H1 Q I1 q1
  | false => exact hb.run pins s1 σ H1 Q I1 q1
/-- x <= y of two integers, of two texts -/
def rLeSI : R2 := fun x y H Q => (∃ i j, x = .int i ∧ y = .int j ∧ Q (.bl (decide (i ≤ j))) H) ∨ ∃ i j, x = .str i ∧ y = .str j ∧ Q (.bl (!decide (j.cps.toList < i.cps.toList))) H
theorem op_leSI {X : Cx} : OpR X (compareOp .LtE) rLeSI := by
  intro pins s σ H x y v u Q I rx ry h
  rcases h with h | h
  · obtain ⟨i, j, e1, e2, q⟩ := h
    exact op_le pins s σ H x y v u Q I rx ry ⟨i, j, e1, e2, q⟩
  · exact op_le_str pins s σ H x y v u Q I rx ry h
/-- a pair of a name, or an address, and a value -/
def itemB (b : Bool) : PyData → Bool
  | .tuple [x, y] => fromD 0 y && (if b = true then nameS x else fromD 1 x)
  | _ => false
def itemFrom (b : Bool) (i : Nat) : List PyData → Option Nat
  | [] => none
  | d :: ds => if itemB b d = true then itemFrom b (i + 1) ds else some i
def leD : PyData → PyData → Bool
  | .int i, .int j => decide (i ≤ j)
  | .str x, .str y => !decide (y.cps.toList < x.cps.toList)
  | _, _ => false
def firstD : PyData → PyData
  | .tuple (x :: _) => x
  | _ => .none
def orderFrom (i : Nat) : List PyData → Option Nat
  | p :: d :: ds => if leD (firstD d) (firstD p) = true then some i else orderFrom (i + 1) (d :: ds)
  | _ => none
def tellD (w : Str) : Option Nat → PyData
  | some i => .tuple [.str w, .int (i : Nat)]
  | none => .none
/-- what store_error (b) or heap_error tells -/
def dueS (b : Bool) : PyData → PyData
  | .tuple ds => match itemFrom b 0 ds with
    | some i => tellD "item" (some i)
    | none => tellD "order" (orderFrom 1 ds)
  | _ => .str "form"
theorem dueS_no {b : Bool} {d : PyData} (h : isTup d = false) : dueS b d = .str "form" := by
  cases d with
  | tuple ds => cases h
  | _ => rfl
theorem itemB_no {b : Bool} {d : PyData} (h : isTup d = false) : itemB b d = false := by
  cases d with
  | tuple ds => cases h
  | _ => rfl
theorem itemB_len {b : Bool} {ds : List PyData} (h : ds.length ≠ 2) : itemB b (.tuple ds) = false := by
  match ds, h with
  | [], _ => rfl
  | [_], _ => rfl
  | [_, _], h => exact absurd rfl h
  | _ :: _ :: _ :: _, _ => rfl
theorem all_items {b : Bool} : ∀ {ds : List PyData} {i : Nat}, itemFrom b i ds = none → ∀ d ∈ ds, itemB b d = true
  | [], _, _ => fun d m => absurd m List.not_mem_nil
  | e :: ds, i, h => by
    rw [itemFrom] at h
    intro d m
    cases c : itemB b e with
    | false =>
      rw [c] at h
      cases h
    | true =>
      rw [c] at h
      rcases List.mem_cons.mp m with rfl | m
      · exact c
      · exact all_items h d m
/-- what stands first in a right item -/
def KeyOk (b : Bool) (x : PyData) : Prop := if b = true then ∃ z, x = .str z else ∃ n, x = .int n
theorem item_key {b : Bool} {d : PyData} (h : itemB b d = true) : ∃ x y, d = .tuple [x, y] ∧ KeyOk b x := by
  rcases tup_or d with ⟨ds, rfl⟩ | hn
  · match ds, h with
    | [x, y], h =>
      obtain ⟨_, h2⟩ := Bool.and_eq_true_iff.mp (show (fromD 0 y && (if b = true then nameS x else fromD 1 x)) = true from h)
      refine ⟨x, y, rfl, ?_⟩
      unfold KeyOk
      cases b with
      | true =>
        cases x with
        | str z => exact ⟨z, rfl⟩
        | none => cases h2
        | bool c => cases h2
        | int n => cases h2
        | tuple es => cases h2
        | list es => cases h2
        | dict es => cases h2
      | false =>
        cases x with
        | int n => exact ⟨n, rfl⟩
        | none => cases h2
        | bool c => cases h2
        | str z => cases h2
        | tuple es => cases h2
        | list es => cases h2
        | dict es => cases h2
  · rw [itemB_no hn] at h
    cases h
theorem orderFrom_step {ds : List PyData} {i : Nat} {p d : PyData} (h1 : ds[i]? = some p) (h2 : ds[i + 1]? = some d) : orderFrom (i + 1) (ds.drop i) = if leD (firstD d) (firstD p) = true then some (i + 1) else orderFrom (i + 1 + 1) (ds.drop (i + 1)) := by
  rw [drop_get h1, drop_get h2, orderFrom]
def spDueS (K : PySem.W.Frag) : Sp := fun vs H Q _ => ∃ v d b, vs = [v, .bl b] ∧ Da K H v d ∧ Fit d ∧ ∀ u H', Same H H' → Da K H' u (dueS b d) → Q u H'
section
variable {P : Program} {w : World} {K : PySem.W.Frag} {mg : Str → Option Value} {base : Heap}
theorem D_l_due (T : Txt K mg) : Df P w K mg base 3 "_law_due" ["value", "is_store"] (spDueS K) := by
  have D_l_is_from := D_l_is_from (P := P) (w := w) (base := base) T
  have D_l_is_name := D_l_is_name (P := P) (w := w) (base := base) T
  obtain ⟨f, fd, S⟩ := T.d_l_due
  refine Df.mk' (k := 2) S sc_l_due (fun vs H Q E h => ?_) (fun cdv A outer s H vs Q E hgd hr h => ?_)
  · obtain ⟨v, d, b, rfl, _⟩ := h
    rfl
  · obtain ⟨v, d, b, rfl, hd, hz, k⟩ := h
    refine ⟨_, (pss_cons (ps_if (pt_not (pt_val (pe_callB call_isiD (by rfl) T.b_isinstance (by decide +kernel) (pa_cons (pv 0) (pa_cons (pe_bT (n := "tuple") T.b_tuple (by decide +kernel)) pa_nil))))) (pss_one (ps_ret pe_str)) pss_nil)
      (pss_cons (ps_for PassesOwn.never rfl (pi_enumT rfl T.b_enumerate (pa_cons (pv 0) pa_nil)) (pg_tup rfl (pgs_cons (pg_name (i := 2) sc_l_due.nd rfl (.inl rfl)) (pgs_cons (pg_name (i := 3) sc_l_due.nd rfl (.inl rfl)) pgs_nil)))
      (pss_cons (ps_if (PW.pt (pw_or (pt_not (pt_val (pe_callB call_isiD (by rfl) T.b_isinstance (by decide +kernel) (pa_cons (pv 3) (pa_cons (pe_bT (n := "tuple") T.b_tuple (by decide +kernel)) pa_nil))))) (pw_or (pt_cmpR op_ne (pe_callB call_len_seq (by rfl) T.b_len (by decide +kernel) (pa_cons (pv 3) pa_nil)) pe_int (nomark _)) (pw_or1 (pt_not (pt_val (pe_d D_l_is_from hgd hr (pa_cons (pe_ix ix_tup (pv 3) pe_int (fun _ _ => rfl)) (pa_cons pe_int pa_nil))))))))) (pss_one (ps_ret (pe_tup (pa_cons pe_str (pa_cons (pv 2) pa_nil))))) pss_nil)
      (pss_one (ps_if (pt_not (pt_ifExp (pt_val (pv 1)) (pt_val (pe_d D_l_is_name hgd hr (pa_cons (pe_ix ix_tup (pv 3) pe_int (fun _ _ => rfl)) pa_nil))) (pt_val (pe_d D_l_is_from hgd hr (pa_cons (pe_ix ix_tup (pv 3) pe_int (fun _ _ => rfl)) (pa_cons pe_int pa_nil)))))) (pss_one (ps_ret (pe_tup (pa_cons pe_str (pa_cons (pv 2) pa_nil))))) pss_nil))))
      (pss_cons (ps_for PassesOwn.never rfl (pi_range2 rfl T.b_range (pa_cons pe_int (pa_cons (pe_callB call_len_seq (by rfl) T.b_len (by decide +kernel) (pa_cons (pv 0) pa_nil)) pa_nil))) (pg_name (i := 2) sc_l_due.nd rfl (.inl rfl))
      (pss_one (ps_if (pt_cmpR op_leSI (pe_ix ix_tup (pe_ix ix_tup (pv 0) (pv 2) (fun _ _ => rfl)) pe_int (fun _ _ => rfl)) (pe_ix ix_tup (pe_ix ix_tup (pv 0) (pe_op op_sub (pv 2) pe_int) (fun _ _ => rfl)) pe_int (fun _ _ => rfl)) (nomark _)) (pss_one (ps_ret (pe_tup (pa_cons pe_str (pa_cons (pv 2) pa_nil))))) pss_nil)))
      (pss_one (ps_ret pe_non))))), ?_⟩
    refine ⟨_, rfl, v, d, H, Same.refl H, hd, .inl ⟨rfl, _, rfl, ?_⟩⟩
    rcases tup_or d with ⟨ds, rfl⟩ | hn
    · obtain ⟨a, xs, rfl, hT, hA⟩ := hd.tupI
      have hlen := hA.length
      have k2 : dueS b (.tuple ds) = (match itemFrom b 0 ds with
        | some i => tellD "item" (some i)
        | none => tellD "order" (orderFrom 1 ds)) := rfl
      refine iteF ⟨_, rfl, a, xs, rfl, hT, for_enumT (K := K) (a := a) (xs := xs) (fun i σ H1 => ∃ o1 o2, σ = [some (.ref a), some (.bl b), o1, o2] ∧ Same H H1 ∧ itemFrom b 0 ds = itemFrom b i (ds.drop i)) ⟨none, none, rfl, Same.refl H, rfl⟩ (fun i σ H1 _ ⟨_, _, _, p, _⟩ => sameT p hT) ?_ ?_⟩
      · rintro i x t σ H1 hx ⟨o1, o2, rfl, p1, p2⟩ ht
        obtain ⟨d, hd1, hd2⟩ := hA.get hx
        have q0 := p1.trans (sameAdd (o := .tup [.int (i : Nat), x]) ht)
        rw [drop_get hd1, itemFrom] at p2
        have fitd := hz.kid (List.mem_of_getElem? hd1)
        have bad : ∀ (H2 : Hp), Same H H2 → itemB b d = false → ∀ t2, H2 t2 = none → Q (.ref t2) (upd H2 t2 (.tup [.str "item", .int (i : Nat)])) := fun H2 q hb t2 ht2 => by
          rw [hb] at p2
          have e : dueS b (.tuple ds) = .tuple [.str "item", .int (i : Nat)] := by
            rw [k2, p2]
            rfl
          refine k _ _ (q.trans (sameAdd ht2)) ?_
          rw [e]
          exact .tup (SqT.of upd_same) (.cons (.str _) (.cons (.int _) .nil))
        have hdx := hd2.mono q0
        refine ⟨t, _, rfl, SqT.of upd_same, rfl, _, _, rfl, _, _, rfl, rfl, ?_⟩
        generalize upd H1 t (.tup [.int (i : Nat), x]) = H2 at q0 hdx ⊢
        refine ⟨_, rfl, x, d, H2, Same.refl _, hdx, .inl ⟨rfl, _, rfl, ?_⟩⟩
        rcases tup_or d with ⟨es, rfl⟩ | hn
        · obtain ⟨c, ys, rfl, cT, cA⟩ := hdx.tupI
          have lc := cA.length
          refine iteF ⟨_, rfl, c, ys, rfl, .inr cT, rfl, _, rfl, iteNot (fun h4 => ?_) (fun h4 => ?_)⟩
          · exact ⟨_, rfl, by show 2 ≤ sizeLine; decide, fun t2 ht2 => bad H2 q0 (itemB_len (by have := len_not h4; rw [← lc]; omega)) t2 ht2⟩
          · obtain ⟨y1, y2, rfl⟩ := len2 (show ys.length = 2 by have := len_of h4; omega)
            cases cA with
            | cons c1 cA =>
              cases cA with
              | cons c2 cA =>
                cases cA
                rename_i dx dy
                refine ⟨_, rfl, c, _, 1, y2, rfl, rfl, cT, rfl, y2, dy, 0, rfl, c2, fun H3 q3 => ⟨_, rfl, iteNot (fun h5 => ?_) (fun h5 => ?_)⟩⟩
                · refine ⟨_, rfl, by show 2 ≤ sizeLine; decide, fun t2 ht2 => bad H3 (q0.trans q3) ?_ t2 ht2⟩
                  show (fromD 0 dy && _) = false
                  rw [h5]
                  rfl
                · have it : itemB b (.tuple [dx, dy]) = (if b = true then nameS dx else fromD 1 dx) := by
                    show (fromD 0 dy && _) = _
                    rw [h5]
                    rfl
                  have q03 := q0.trans q3
                  refine ⟨_, rfl, b, rfl, iteB (fun hb => ?_) (fun hb => ?_)⟩
                  · rw [hb, if_pos rfl] at it
                    refine ⟨_, rfl, c, _, 0, y1, rfl, rfl, sameT q3 cT, rfl, y1, dx, rfl, c1.mono q3, fitd.kid List.mem_cons_self, fun H4 q4 => ⟨_, rfl, iteNot (fun h6 => ?_) (fun h6 => ?_)⟩⟩
                    · exact ⟨_, rfl, by show 2 ≤ sizeLine; decide, fun t2 ht2 => bad H4 (q03.trans q4) (by rw [hb, it]; exact h6) t2 ht2⟩
                    · rw [hb, it, h6, if_pos rfl] at p2
                      exact ⟨_, _, rfl, q03.trans q4, by rw [hb]; exact p2⟩
                  · rw [hb, if_neg Bool.false_ne_true] at it
                    refine ⟨_, rfl, c, _, 0, y1, rfl, rfl, sameT q3 cT, rfl, y1, dx, 1, rfl, c1.mono q3, fun H4 q4 => ⟨_, rfl, iteNot (fun h6 => ?_) (fun h6 => ?_)⟩⟩
                    · exact ⟨_, rfl, by show 2 ≤ sizeLine; decide, fun t2 ht2 => bad H4 (q03.trans q4) (by rw [hb, it]; exact h6) t2 ht2⟩
                    · rw [hb, it, h6, if_pos rfl] at p2
                      exact ⟨_, _, rfl, q03.trans q4, by rw [hb]; exact p2⟩
        · rw [hn]
          exact ⟨_, rfl, by show 2 ≤ sizeLine; decide, fun t2 ht2 => bad H2 q0 (itemB_no hn) t2 ht2⟩
      · rintro σ H1 ⟨o1, o2, rfl, p1, p2⟩
        have p3 : itemFrom b 0 ds = none := by
          rw [p2, hlen, List.drop_length]
          rfl
        have good := all_items p3
        have k3 : dueS b (.tuple ds) = tellD "order" (orderFrom 1 ds) := by
          rw [k2, p3]
        rw [k3] at k
        have lz : xs.length ≤ sizeLine := by
          rw [hlen]
          exact Nat.le_trans (siz_len ds) hz.sz
        have big : sizeLine < 2 ^ 61 := by decide
        refine ⟨_, rfl, a, xs, rfl, .inr (sameT p1 hT), 1, _, rfl, ⟨by decide, by decide, by omega, by omega⟩, for_range (lo := 1) (n := ((xs.length : Int) - 1).toNat) (fun i σ H2 => ∃ o1 o2, σ = [some (.ref a), some (.bl b), o1, o2] ∧ Same H H2 ∧ orderFrom 1 ds = orderFrom (i + 1) (ds.drop i)) ⟨_, _, rfl, p1, rfl⟩ ?_ ?_⟩
        · rintro i σ H2 hi ⟨o1, o2, rfl, s2, ord⟩
          have l1 : i + 1 < xs.length := by omega
          obtain ⟨dp, hp1, hp2⟩ := hA.get (List.getElem?_eq_getElem (show i < xs.length by omega))
          obtain ⟨dq, hq1, hq2⟩ := hA.get (List.getElem?_eq_getElem l1)
          rw [orderFrom_step hp1 hq1] at ord
          obtain ⟨x1, y1, rfl, k1⟩ := item_key (good _ (List.mem_of_getElem? hp1))
          obtain ⟨x2, y2, rfl, k4⟩ := item_key (good _ (List.mem_of_getElem? hq1))
          obtain ⟨c1, w1, e1, t1, a1⟩ := hp2.tupI
          obtain ⟨c2, w2, e2, t2, a2⟩ := hq2.tupI
          have i1 : atI xs (1 + (i : Int) - 1) = some (.ref c1) := by
            rw [show (1 + (i : Int) - 1) = ((i : Nat) : Int) by omega]
            obtain ⟨z, hz1, _⟩ := atI_nat2 (xs := xs) (i := (i : Int)) (by omega) (by omega)
            rw [← e1]
            unfold atI ixN
            rw [if_pos (by omega), if_pos (by omega)]
            show xs[i]? = _
            exact List.getElem?_eq_getElem (by omega)
          have i2 : atI xs (1 + (i : Int)) = some (.ref c2) := by
            rw [← e2]
            unfold atI ixN
            rw [if_pos (by omega), if_pos (by omega)]
            show xs[(1 + (i : Int)).toNat]? = _
            rw [show (1 + (i : Int)).toNat = i + 1 by omega]
            exact List.getElem?_eq_getElem l1
          cases a1 with
          | cons f1 r1 =>
            cases a2 with
            | cons f2 r2 =>
              cases r1 with
              | cons g1 r1 =>
              cases r1
              cases r2 with
              | cons g2 r2 =>
              cases r2
              rename_i u1 u2 v1 v2
              have fin : ∀ c, leD x2 x1 = c → if c = true then ∀ t, H2 t = none → Q (.ref t) (upd H2 t (.tup [.str "order", .int (1 + (i : Int))])) else orderFrom 1 ds = orderFrom (i + 1 + 1) (ds.drop (i + 1)) := fun c hc => by
                cases c with
                | true =>
                  rw [if_pos (show leD (firstD (.tuple [x2, y2])) (firstD (.tuple [x1, y1])) = true from hc)] at ord
                  rw [if_pos rfl]
                  intro t ht
                  refine k _ _ (s2.trans (sameAdd ht)) ?_
                  rw [ord]
                  show Da K _ _ (.tuple [.str "order", .int ((i + 1 : Nat) : Int)])
                  rw [show ((i + 1 : Nat) : Int) = 1 + (i : Int) by omega]
                  exact .tup (SqT.of upd_same) (.cons (.str _) (.cons (.int _) .nil))
                | false =>
                  rw [if_neg (show ¬ leD (firstD (.tuple [x2, y2])) (firstD (.tuple [x1, y1])) = true from fun q => by rw [show leD (firstD (.tuple [x2, y2])) (firstD (.tuple [x1, y1])) = false from hc] at q; cases q)] at ord
                  rw [if_neg Bool.false_ne_true]
                  exact ord
              dsimp only [gName, List.set]
              refine ⟨_, rfl, _, rfl, a, xs, _, _, rfl, rfl, sameT s2 hT, i2, c2, _, 0, u2, rfl, rfl, sameT s2 t2, rfl, _, rfl, _, rfl, _, _, rfl, rfl, a, xs, _, _, rfl, rfl, sameT s2 hT, i1, c1, _, 0, u1, rfl, rfl, sameT s2 t1, rfl, ?_⟩
              unfold KeyOk at k1 k4
              by_cases hb : b = true
              · rw [if_pos hb] at k1 k4
                obtain ⟨z1, rfl⟩ := k1
                obtain ⟨z2, rfl⟩ := k4
                cases f1.strI
                cases f2.strI
                refine .inr ⟨z2, z1, rfl, rfl, _, rfl, iteB (fun h => ?_) (fun h => ?_)⟩
                · have q := fin true h
                  rw [if_pos rfl] at q
                  exact ⟨_, rfl, by show 2 ≤ sizeLine; decide, fun t ht => q t ht⟩
                · have q := fin false h
                  rw [if_neg Bool.false_ne_true] at q
                  exact ⟨_, _, rfl, s2, q⟩
              · rw [if_neg hb] at k1 k4
                obtain ⟨z1, rfl⟩ := k1
                obtain ⟨z2, rfl⟩ := k4
                cases f1
                cases f2
                refine .inl ⟨z2, z1, rfl, rfl, _, rfl, iteB (fun h => ?_) (fun h => ?_)⟩
                · have q := fin true h
                  rw [if_pos rfl] at q
                  exact ⟨_, rfl, by show 2 ≤ sizeLine; decide, fun t ht => q t ht⟩
                · have q := fin false h
                  rw [if_neg Bool.false_ne_true] at q
                  exact ⟨_, _, rfl, s2, q⟩
        · rintro σ H2 ⟨o1, o2, rfl, s2, ord⟩
          refine k _ _ s2 ?_
          have le : ds.length ≤ ((xs.length : Int) - 1).toNat + 1 := by omega
          have none1 : orderFrom 1 ds = none := by
            rw [ord]
            generalize ((xs.length : Int) - 1).toNat = m at le
            have l2 : (ds.drop m).length ≤ 1 := by
              rw [List.length_drop]
              omega
            match ds.drop m, l2 with
            | [], _ => rfl
            | [_], _ => rfl
          rw [none1]
          exact .non
    · rw [hn]
      refine k _ _ (Same.refl H) ?_
      rw [dueS_no hn]
      exact .str _
end
end L2.Hx

/-! Stores and heaps: what is told beside what is due, if the program's two defs keep their promise. -/
namespace L2.Hx
open PySem PySem.Spec PyProof.Rows
def spErr (K : PySem.W.Frag) (b : Bool) : Sp := fun vs H Q _ => ∃ v d, vs = [v] ∧ Da K H v d ∧ Fit d ∧ ∀ u H', Same H H' → Da K H' u (dueS b d) → Q u H'
def spRight (K : PySem.W.Frag) : Sp := fun vs H Q _ => ∃ v d b c, vs = [v, .bl b, .bl c] ∧ Da K H v d ∧ Okd 20 16000000 d ∧ ∀ H', Same H H' → Q (.bl true) H'
theorem yes_if {σ : St} {H : Hp} {A B : Hp → Prop} (h : A H) : tYes σ H (fun b H3 => if b = true then A H3 else B H3) := h
theorem behindS {N I : St → Hp → Prop} {A : Prop} (main : (∀ σ H2, I σ H2 → N σ H2) → A) (fin : ∀ σ H2, I σ H2 → N σ H2) : A := main fin
theorem log_small {n : Nat} (h : n ≤ sizeLine) : (n : Int).natAbs.log2 < 1920 := by
  have h1 : sizeLine < 9223372036854775808 := by decide
  have h2 : (n : Int).natAbs < 9223372036854775808 := by omega
  have h7 : (n : Int).natAbs < 2 ^ 63 := h2
  exact Nat.lt_trans (PySem.Flt.log2_lt_of (by decide) h7) (by decide)
theorem tell_okd {w : Str} (h1 : okB (.str w) = true) (h2 : siz (.str w) ≤ 100) {i : Nat} (h : i ≤ sizeLine) : Okd 1 5000 (tellD w (some i)) := by
  refine Okd.tup (k := 0) (n := 2000) (m := 2) (fun z m => ?_) (Nat.le_refl 2)
  rcases List.mem_cons.mp m with rfl | m
  · exact ⟨h1, Nat.zero_le _, by omega⟩
  · rw [List.mem_singleton.mp m]
    exact ⟨decide_eq_true (log_small h), Nat.zero_le _, by show 1921 ≤ 2000; decide⟩
theorem itemFrom_le {b : Bool} : ∀ {ds : List PyData} {i j : Nat}, itemFrom b i ds = some j → j ≤ i + ds.length
  | [], i, j, h => nomatch h
  | d :: ds, i, j, h => by
    rw [itemFrom] at h
    rw [List.length_cons]
    split at h
    · have := itemFrom_le h
      omega
    · cases h
      omega
theorem orderFrom_le : ∀ {ds : List PyData} {i j : Nat}, orderFrom i ds = some j → j ≤ i + ds.length
  | [], i, j, h => nomatch h
  | [_], i, j, h => nomatch h
  | p :: d :: ds, i, j, h => by
    rw [orderFrom] at h
    rw [List.length_cons]
    split at h
    · cases h
      omega
    · have := orderFrom_le h
      omega
theorem dueS_okd {b : Bool} {d : PyData} (hf : Okd 20 16000000 d) : Okd 1 5000 (dueS b d) := by
  have form : Okd 1 5000 (.str "form") := ⟨by decide +kernel, by simp [PyData.depth], by decide +kernel⟩
  have hN : Okd 1 5000 .none := ⟨rfl, by simp [PyData.depth], by show 5 ≤ 5000; decide⟩
  have big : 16000000 + 1 ≤ sizeLine := by decide
  cases d with
  | tuple ds =>
    have ld : ds.length ≤ 16000000 := Nat.le_trans (siz_len ds) hf.sz
    show Okd 1 5000 (match itemFrom b 0 ds with
      | some i => tellD "item" (some i)
      | none => tellD "order" (orderFrom 1 ds))
    cases e : itemFrom b 0 ds with
    | some i => exact tell_okd (by decide +kernel) (by decide +kernel) (by have := itemFrom_le e; omega)
    | none =>
      cases e2 : orderFrom 1 ds with
      | some i => exact tell_okd (by decide +kernel) (by decide +kernel) (by have := orderFrom_le e2; omega)
      | none => exact hN
  | _ => exact form
section
variable {P : Program} {w : World} {K : PySem.W.Frag} {mg : Str → Option Value} {base : Heap}
theorem D_l_is_right (T : Txt K mg) (D_store_error : Df P w K mg base 4 "store_error" ["value"] (spErr K true)) (D_heap_error : Df P w K mg base 4 "heap_error" ["value"] (spErr K false))
    (DK_store_error : ∃ f fd, FnG P w K mg base CX0 4 f fd ["value"] (spErr K true) ∧ mg "store_error" = some (.ref f) ∧ PySem.W.keepIn K (.ref f) = true ∧ KwBinds K fd ["value"] ["value"] (fun us => us))
    (DK_heap_error : ∃ f fd, FnG P w K mg base CX0 4 f fd ["value"] (spErr K false) ∧ mg "heap_error" = some (.ref f) ∧ PySem.W.keepIn K (.ref f) = true ∧ KwBinds K fd ["value"] ["value"] (fun us => us)) :
    Df P w K mg base 9 "_law_is_right" ["value", "is_store", "is_named_v"] (spRight K) := by
  have D_l_due := D_l_due (P := P) (w := w) (base := base) T
  obtain ⟨f, fd, S⟩ := T.d_l_is_right
  refine Df.mk' (k := 8) S sc_l_is_right (fun vs H Q E h => ?_) (fun cdv A outer s H vs Q E hgd hr h => ?_)
  · obtain ⟨v, d, b, c, rfl, _⟩ := h
    rfl
  · obtain ⟨v, d, b, c, rfl, hd, hok, k⟩ := h
    have fit := hok.fit line16
    obtain ⟨s1, s2, s3⟩ := hok.shown (by decide) line16
    obtain ⟨t1, t2, t3⟩ := (dueS_okd (b := b) hok).shown (by decide) (by decide)
    refine ⟨_, (pss_cons (ps_par (i := 3) (j := 4) (by rfl) sc_l_is_right.nd rfl rfl (by decide) rfl rfl (pa_cons (pe_callB (call_repr hgd hr.units) (by rfl) T.b_repr (by decide +kernel) (pa_cons (pv 0) pa_nil)) (pa_cons (pe_callB (call_repr hgd hr.units) (by rfl) T.b_repr (by decide +kernel) (pa_cons (pe_d D_l_due hgd hr (pa_cons (pv 0) (pa_cons (pv 1) pa_nil))) pa_nil)) pa_nil)) (by rfl))
      (pss_cons (ps_if (pt_val (pv 1)) (pss_one (ps_set (i := 5) sc_l_is_right.nd rfl (.inl rfl) (pe_lst (pa_cons (pe_ifExp (pt_val (pv 2)) (pe_kwd DK_store_error hgd hr (pk_cons (pv 0) pk_nil)) (pe_d D_store_error hgd hr (pa_cons (pv 0) pa_nil))) (pa_cons (pe_d D_store_error hgd hr (pa_cons (pv 0) pa_nil)) pa_nil))))) (pss_one (ps_set (i := 5) sc_l_is_right.nd rfl (.inl rfl) (pe_lst (pa_cons (pe_ifExp (pt_val (pv 2)) (pe_kwd DK_heap_error hgd hr (pk_cons (pv 0) pk_nil)) (pe_d D_heap_error hgd hr (pa_cons (pv 0) pa_nil))) (pa_cons (pe_d D_heap_error hgd hr (pa_cons (pv 0) pa_nil)) pa_nil))))))
      (pss_one (ps_ret (pe_and (pe_cmpR (op_eqV hr.units) (pe_lc (own := [("own", 6)]) (g := gName 6) (tt := tYes) (te := tCB (rRepr K) (tCons (tVar 6) tNil)) rfl sc_l_is_right.nd (pi_list (pv 5)) (blkOk_by (own := [("own", 6)]) (N := ["value", "is_store", "is_named_v", "known", "due", "seen", "own"]) (sc := defScope s_l_is_right) (by decide +kernel)) (fun _ _ _ _ _ => pg_name (i := 6) sc_l_is_right.nd rfl (.inl rfl)) (fun _ _ _ _ _ => pts_nil) (fun _ _ _ _ _ => (pe_callB (call_repr hgd hr.units) (by rfl) T.b_repr (by decide +kernel) (pa_cons (pv 6) pa_nil)))) (pe_lst (pa_cons (pv 4) (pa_cons (pv 4) pa_nil))) (nomark _)) (pe_one (pe_cmpR op_eq (pe_callB (call_repr hgd hr.units) (by rfl) T.b_repr (by decide +kernel) (pa_cons (pv 0) pa_nil)) (pv 3) (nomark _)))))))), ?_⟩
    refine ⟨_, rfl, v, d, H, rfl, Same.refl H, hd, s1, s2, s3, _, rfl, _, rfl, v, d, b, rfl, hd, fit, fun u1 H1 q1 du1 => ⟨u1, dueS b d, H1, rfl, Same.refl _, du1, t1, t2, t3, _, _, rfl, ?_⟩⟩
    refine' behindS (I := fun σ H2 => ∃ L u2 u3, σ = [some v, some (.bl b), some (.bl c), some (.str (PyData.shown d)), some (.str (PyData.shown (dueS b d))), some (.ref L), none] ∧ Same H H2 ∧ H2 L = some (.lst [u2, u3]) ∧ Da K H2 u2 (dueS b d) ∧ Da K H2 u3 (dueS b d)) (fun fin => ?_) ?_
    rotate_left 1
    · refine ⟨_, rfl, b, rfl, iteB (fun hb => ?_) (fun hb => ?_)⟩
      · subst hb
        refine' behindP (I := fun u2 H2 => Same H H2 ∧ Da K H2 u2 (dueS true d)) (fun fin2 => ?_) ?_
        rotate_left 1
        · refine ⟨_, rfl, c, rfl, iteB (fun _ => ?_) (fun _ => ?_)⟩
          · refine ⟨_, rfl, rfl, v, d, rfl, hd.mono q1, fit, fun u2 H2 q2 du2 => ?_⟩
            exact fin2 u2 H2 ⟨q1.trans q2, du2⟩
          · refine ⟨_, rfl, v, d, rfl, hd.mono q1, fit, fun u2 H2 q2 du2 => ?_⟩
            exact fin2 u2 H2 ⟨q1.trans q2, du2⟩
        · rintro u2 H2 ⟨q2, du2⟩
          refine ⟨_, rfl, v, d, rfl, hd.mono q2, fit, fun u3 H3 q3 du3 => ⟨by show 2 ≤ sizeLine; decide, fun L hL => ?_⟩⟩
          have sL := sameAdd (o := .lst [u2, u3]) hL
          dsimp only [gName]
          generalize hσ : List.set _ 5 (some (V.ref L)) = σ'
          have hL2 : (upd H3 L (.lst [u2, u3])) L = some (.lst [u2, u3]) := upd_same
          have du2' := du2.mono (q3.trans sL)
          have du3' := du3.mono sL
          have qq := (q2.trans q3).trans sL
          generalize upd H3 L (.lst [u2, u3]) = H4 at hL2 du2' du3' qq ⊢
          exact fin σ' H4 ⟨L, u2, u3, hσ.symm, qq, hL2, du2', du3'⟩
      · subst hb
        refine' behindP (I := fun u2 H2 => Same H H2 ∧ Da K H2 u2 (dueS false d)) (fun fin2 => ?_) ?_
        rotate_left 1
        · refine ⟨_, rfl, c, rfl, iteB (fun _ => ?_) (fun _ => ?_)⟩
          · refine ⟨_, rfl, rfl, v, d, rfl, hd.mono q1, fit, fun u2 H2 q2 du2 => ?_⟩
            exact fin2 u2 H2 ⟨q1.trans q2, du2⟩
          · refine ⟨_, rfl, v, d, rfl, hd.mono q1, fit, fun u2 H2 q2 du2 => ?_⟩
            exact fin2 u2 H2 ⟨q1.trans q2, du2⟩
        · rintro u2 H2 ⟨q2, du2⟩
          refine ⟨_, rfl, v, d, rfl, hd.mono q2, fit, fun u3 H3 q3 du3 => ⟨by show 2 ≤ sizeLine; decide, fun L hL => ?_⟩⟩
          have sL := sameAdd (o := .lst [u2, u3]) hL
          dsimp only [gName]
          generalize hσ : List.set _ 5 (some (V.ref L)) = σ'
          have hL2 : (upd H3 L (.lst [u2, u3])) L = some (.lst [u2, u3]) := upd_same
          have du2' := du2.mono (q3.trans sL)
          have du3' := du3.mono sL
          have qq := (q2.trans q3).trans sL
          generalize upd H3 L (.lst [u2, u3]) = H4 at hL2 du2' du3' qq ⊢
          exact fin σ' H4 ⟨L, u2, u3, hσ.symm, qq, hL2, du2', du3'⟩
    · rintro σ H2 ⟨L, u2, u3, rfl, q2, hL, d2, d3⟩
      have each : ∀ x ∈ [u2, u3], Da K H2 x (dueS b d) := fun x m => by
        rcases List.mem_cons.mp m with rfl | m
        · exact d2
        · rw [List.mem_singleton.mp m]
          exact d3
      refine ⟨_, rfl, L, rfl, ⟨_, SqL.of hL⟩, fun N hN => ?_⟩
      refine lc_list (K := K) (a := L) (xs := [u2, u3]) (fun i H3 => Same H2 H3 ∧ H3 N = some (.lst (([V.str (PyData.shown (dueS b d)), V.str (PyData.shown (dueS b d))] : List V).take i))) ⟨sameAdd hN, upd_same⟩ (fun i H3 _ q => (Same.seq q.1 (SqL.of hL))) ?_ ?_
      · rintro i x H3 hx ⟨q3, l3⟩
        have hi : i < 2 := (List.getElem?_eq_some_iff.mp hx).1
        refine ⟨rfl, yes_if ?_⟩
        refine ⟨_, rfl, x, dueS b d, H3, rfl, Same.refl _, (each x (List.mem_of_getElem? hx)).mono q3, t1, t2, t3, _, l3, ?_, sameOut q3 hN, ?_⟩
        · have : (100 : Nat) ≤ sizeLine := by decide
          rw [List.length_take]
          omega
        · rw [upd_same]
          match i, hi with
          | 0, _ => rfl
          | 1, _ => rfl
      · rintro H3 ⟨q3, l3⟩
        refine ⟨_, rfl, _, rfl, by show 2 ≤ sizeLine; decide, fun M hM => ?_⟩
        have nNM : N ≠ M := fun e => by
          rw [← e, l3] at hM
          cases hM
        refine ⟨1, by decide, .inl ⟨N, M, _, _, rfl, rfl, SqL.of (by rw [upd_ne nNM]; exact l3), SqL.of upd_same, .cons (.inl ⟨rfl, rfl⟩) (.cons (.inl ⟨rfl, rfl⟩) .nil)⟩, true, rfl, ?_⟩
        have qq := (q2.trans q3).trans (sameAdd (o := .lst [V.str (PyData.shown (dueS b d)), V.str (PyData.shown (dueS b d))]) hM)
        refine ⟨_, rfl, v, d, _, rfl, Same.refl _, hd.mono qq, s1, s2, s3, _, rfl, rfl, ?_⟩
        rw [decide_eq_true rfl]
        exact k _ qq
end
end L2.Hx

/-! Stores and heaps: an item with something turned. -/
namespace L2.Hx
open PySem PySem.Spec PyProof.Rows
section
variable {K : PySem.W.Frag} {p l : Addr} {σ : St} {G : Hp}
theorem td_pow60 {k n : Nat} (hn : 1921 ≤ n := by decide) : TD K p l σ G (tOp (rI CPow fun i j => .int (i ^ j.toNat)) (tC (.int 10)) (tC (.int 60))) (Okd k n) := fun G1 H Q W s kk =>
  ⟨10, 60, rfl, rfl, ⟨by decide, by decide, by decide⟩, kk _ _ _ _ (Ext.refl W) (.int _) ⟨by decide +kernel, Nat.zero_le _, hn⟩⟩
end
/-- a pair of two flat things turned -/
def spItem (K : PySem.W.Frag) : Sp := fun vs H Q _ => ∃ (p l : Addr) (G : Hp) (v : V) (x y : PyData) (b : Bool), vs = [.ref p, v, .bl b] ∧ Wd p l G H ∧ Da K G v (.tuple [x, y]) ∧ Okd 0 2000 x ∧ Okd 0 2000 y ∧
  ∀ u e G2 H2, Ext p l G H G2 H2 → Da K G2 u e → Okd 3 20000 e → Q u H2
section
variable {P : Program} {w : World} {K : PySem.W.Frag} {mg : Str → Option Value} {base : Heap}
theorem D_l_odd_item (T : Txt K mg) : Df P w K mg base 3 "_law_odd_item" ["deck", "own", "is_store"] (spItem K) := by
  have D_l_pick := D_pick (P := P) (w := w) (base := base) T
  obtain ⟨f, fd, S⟩ := T.d_l_odd_item
  refine Df.mk' (k := 2) S sc_l_odd_item (fun vs H Q E h => ?_) (fun cdv A outer s H vs Q E hgd hr h => ?_)
  · obtain ⟨p, l, G, v, x, y, b, rfl, _⟩ := h
    rfl
  · obtain ⟨p, l, G, v, x, y, b, rfl, W, hd, ox, oy, kk⟩ := h
    obtain ⟨a, xs, rfl, aT, aA⟩ := hd.tupI
    cases aA with
    | cons hx aA =>
      cases aA with
      | cons hy aA =>
        cases aA
        rename_i v1 v2
        refine ⟨_, (pss_cons (ps_asg (pv 1) (pg_tup rfl (pgs_cons (pg_name (i := 3) sc_l_odd_item.nd rfl (.inl rfl)) (pgs_cons (pg_name (i := 4) sc_l_odd_item.nd rfl (.inl rfl)) pgs_nil))))
      (pss_cons (ps_set (i := 5) sc_l_odd_item.nd rfl (.inl rfl) (pe_lst (pa_cons pe_str (pa_cons pe_str (pa_cons pe_str (pa_cons pe_str (pa_cons pe_str (pa_cons pe_str (pa_cons pe_int (pa_cons pe_int (pa_cons pe_non (pa_cons pe_bl (pa_cons pe_str (pa_cons (pe_tup (pa_cons pe_str pa_nil)) (pa_cons (pe_op op_pow pe_int pe_int) (pa_cons (pe_un un_neg pe_int) (pa_cons pe_bl pa_nil)))))))))))))))))
      (pss_cons (ps_set (i := 5) sc_l_odd_item.nd rfl (.inl rfl) (pe_op op_cat (pv 5) (pe_lst (pa_cons pe_str (pa_cons pe_str (pa_cons pe_str (pa_cons (pe_lst (pa_cons pe_str pa_nil)) (pa_cons pe_dnewK pa_nil))))))))
      (pss_cons (ps_set (i := 6) sc_l_odd_item.nd rfl (.inl rfl) (pe_lst (pa_cons (pe_un un_neg pe_int) (pa_cons pe_bl (pa_cons pe_bl (pa_cons pe_non (pa_cons pe_str (pa_cons (pe_tup (pa_cons pe_int pa_nil)) (pa_cons pe_int (pa_cons (pe_op op_pow pe_int pe_int) (pa_cons pe_str pa_nil)))))))))))
      (pss_cons (ps_set (i := 7) sc_l_odd_item.nd rfl (.inl rfl) (pe_lst (pa_cons (pe_tup (pa_cons (pe_d D_l_pick hgd hr (pa_cons (pv 0) (pa_cons (pv 5) pa_nil))) (pa_cons (pv 4) pa_nil))) (pa_cons (pe_tup (pa_cons (pv 3) (pa_cons (pe_d D_l_pick hgd hr (pa_cons (pv 0) (pa_cons (pv 6) pa_nil))) pa_nil))) (pa_cons (pe_lst (pa_cons (pv 3) (pa_cons (pv 4) pa_nil))) (pa_cons (pe_tup (pa_cons (pv 3) pa_nil)) (pa_cons (pe_op op_catA (pv 1) (pe_tup (pa_cons pe_int pa_nil))) pa_nil)))))))
      (pss_one (ps_ret (pe_d D_l_pick hgd hr (pa_cons (pv 0) (pa_cons (pe_op op_cat (pv 7) (pe_lst (pa_cons (pe_tup (pa_cons (pv 4) (pa_cons (pv 3) pa_nil))) (pa_cons pe_non (pa_cons (pe_tup pa_nil) (pa_cons (pe_tup (pa_cons (pv 3) (pa_cons (pv 3) pa_nil))) (pa_cons (pe_tup (pa_cons (pe_d D_l_pick hgd hr (pa_cons (pv 0) (pa_cons (pv 5) pa_nil))) (pa_cons (pv 4) pa_nil))) pa_nil))))))) pa_nil)))))))))), ?_⟩
        refine ⟨_, rfl, a, _, rfl, sameT W.same aT, rfl, v1, _, rfl, v2, _, rfl, rfl, ?_⟩
        dsimp only [gName]
        refine TD.asg (K := K) (p := p) (l := l) (G := G) (φ := Ls 1 3000 15) ?h1 W (fun b1 m1 G1 H1 e1 da1 f1 => ?k1)
        case h1 =>
          exact td_lst (tds_cons td_str (tds_cons td_str (tds_cons td_str (tds_cons td_str (tds_cons td_str (tds_cons td_str (tds_cons td_int (tds_cons td_int (tds_cons td_non (tds_cons td_bl (tds_cons td_str
            (tds_cons (td_tupO (k := 0) (n := 100) (tds_cons td_str tds_nil)) (tds_cons td_pow60 (tds_cons td_neg (tds_cons td_bl tds_nil)))))))))))))))
        dsimp only
        refine TD.asg (K := K) (p := p) (l := l) (G := G1) (φ := Ls 1 3000 20) ?h2 e1.w (fun b2 m2 G2 H2 e2 da2 f2 => ?k2)
        case h2 =>
          exact td_cat (m := 15) (m2 := 5) (td_var rfl da1 f1) (td_lst (tds_cons td_str (tds_cons td_str (tds_cons td_str (tds_cons (td_mono (k := 1) (n := 200) (TD.imp (td_lst (k := 0) (n := 100) (m := 0) (tds_cons td_str tds_nil)) fun d f => f.okd)) (tds_cons td_dict0 tds_nil))))))
        dsimp only
        refine TD.asg (K := K) (p := p) (l := l) (G := G2) (φ := Ls 1 3000 9) ?h3 e2.w (fun b3 m3 G3 H3 e3 da3 f3 => ?k3)
        case h3 =>
          exact td_lst (tds_cons td_neg (tds_cons td_bl (tds_cons td_bl (tds_cons td_non (tds_cons td_str (tds_cons (td_tupO (k := 0) (n := 2000) (tds_cons td_int tds_nil)) (tds_cons td_int (tds_cons td_pow60 (tds_cons td_str tds_nil)))))))))
        dsimp only
        have s12 := e1.sub.trans e2.sub
        have s13 := s12.trans e3.sub
        have hx3 := hx.mono s13
        have hy3 := hy.mono s13
        have ox1 : Okd 1 3000 x := ox.mono
        have oy1 : Okd 1 3000 y := oy.mono
        refine TD.asg (K := K) (p := p) (l := l) (G := G3) (φ := Ls 3 20000 5) ?h4 e3.w (fun b4 m4 G4 H4 e4 da4 f4 => ?k4)
        case h4 =>
          exact td_lst (tds_cons (td_tupO (k := 1) (n := 3000) (tds_cons (td_pick (TD.imp (td_var rfl (da2.mono e3.sub) f2) fun d f => f.lsP) rfl) (tds_cons (td_var rfl hy3 oy1) tds_nil)))
            (tds_cons (td_tupO (k := 1) (n := 3000) (tds_cons (td_var rfl hx3 ox1) (tds_cons (td_pick (TD.imp (td_var rfl da3 f3) fun d f => f.lsP) rfl) tds_nil)))
            (tds_cons (td_mono (k := 2) (n := 10000) (TD.imp (td_lst (k := 1) (n := 3000) (m := 1) (tds_cons (td_var rfl hx3 ox1) (tds_cons (td_var rfl hy3 oy1) tds_nil))) fun d f => f.okd))
            (tds_cons (td_tupO (k := 1) (n := 3000) (tds_cons (td_var rfl hx3 ox1) tds_nil))
            (tds_cons (td_tpO (td_catA (k := 1) (n := 3000) (m := 2) (m2 := 1) (td_var rfl (hd.mono s13) ⟨[x, y], rfl, Nat.le_refl 2, fun z m => by
              rcases List.mem_cons.mp m with rfl | m
              · exact ox1
              · rw [List.mem_singleton.mp m]
                exact oy1⟩) (td_tup (tds_cons td_int tds_nil)))) tds_nil)))))
        dsimp only
        have hx4 := hx3.mono e4.sub
        have hy4 := hy3.mono e4.sub
        refine TD.ret (K := K) (p := p) (l := l) (G := G4) (φ := Okd 3 20000) ?h5 e4.w (fun u z G5 H5 e5 dz fz => ?k5)
        case h5 =>
          exact td_pick (TD.imp (td_cat (m := 5) (m2 := 5) (td_var rfl da4 f4) (td_lst (tds_cons (td_tupO (k := 1) (n := 3000) (tds_cons (td_var rfl hy4 oy1) (tds_cons (td_var rfl hx4 ox1) tds_nil))) (tds_cons td_non (tds_cons td_tup0O
            (tds_cons (td_tupO (k := 1) (n := 3000) (tds_cons (td_var rfl hx4 ox1) (tds_cons (td_var rfl hx4 ox1) tds_nil)))
            (tds_cons (td_tupO (k := 1) (n := 3000) (tds_cons (td_pick (TD.imp (td_var rfl (da2.mono (e3.sub.trans e4.sub)) f2) fun d f => f.lsP) rfl) (tds_cons (td_var rfl hy4 oy1) tds_nil))) tds_nil))))))) fun d f => f.lsP) rfl
        exact kk u z G5 H5 ((((e1.trans W e2).trans W e3).trans W e4).trans W e5) dz fz
end
end L2.Hx

/-! Stores and heaps: the program's own defs. -/
namespace L2.Hx
open PySem PySem.Spec PyProof.Rows
theorem nameP_str (z : Str) : nameP (.str z) = (lenOk z && (!decide (z ∈ w_WORDS) && letters z)) := rfl
theorem termL_str (z : Str) : termL (.str z) = (lenOk z && (letters z && (decide (z ∈ w_nr) || !decide (z ∈ w_WORDS)))) := rfl
theorem nameP_no {d : PyData} (h : isStr d = false) : nameP d = false := by
  cases d <;> first | rfl | cases h
theorem termL_no {d : PyData} (h : isStr d = false) : termL d = false := by
  cases d <;> first | rfl | cases h
def pairD : PyData → Bool
  | .tuple [_, _] => true
  | _ => false
theorem pairD_no {d : PyData} (h : isTup d = false) : pairD d = false := by
  cases d with
  | tuple ds => cases h
  | _ => rfl
theorem pairD_len (ds : List PyData) : pairD (.tuple ds) = decide (ds.length = 2) := by
  match ds with
  | [] => rfl
  | [_] => rfl
  | [_, _] => rfl
  | _ :: _ :: _ :: _ =>
    refine (decide_eq_false ?_).symm
    simp only [List.length_cons]
    omega
theorem words_of_lang (z : Str) : decide (z ∈ w_WORDS) = (decide (z ∈ w_nr) || decide (z ∈ w_lw)) := by
  have e : w_WORDS = w_nr ++ w_lw := rfl
  rw [e]
  by_cases h1 : z ∈ w_nr
  · rw [decide_eq_true h1, decide_eq_true (List.mem_append.mpr (.inl h1))]
    rfl
  · by_cases h2 : z ∈ w_lw
    · rw [decide_eq_true h2, decide_eq_true (List.mem_append.mpr (.inr h2)), Bool.or_true]
    · rw [decide_eq_false h1, decide_eq_false h2, decide_eq_false (fun q => (List.mem_append.mp q).elim h1 h2)]
      rfl
theorem nr_lw (z : Str) (h : z ∈ w_nr) : ¬ z ∈ w_lw := by
  have e : (w_nr.all fun z => !decide (z ∈ w_lw)) = true := by decide +kernel
  rw [List.all_eq_true] at e
  have := e z h
  simpa using this
theorem nr_word (z : Str) : (decide (z ∈ w_nr) || !decide (z ∈ w_WORDS)) = !decide (z ∈ w_lw) := by
  rw [words_of_lang]
  by_cases h1 : z ∈ w_nr
  · rw [decide_eq_true h1, decide_eq_false (nr_lw z h1)]
    rfl
  · rw [decide_eq_false h1, Bool.false_or, Bool.false_or]
theorem nameS_term (z : Str) : nameS (.str z) = (termL (.str z) && !decide (z = ("nil" : Str))) := by
  rw [termL_str, nr_word]
  show (lenOk z && (!decide (z = ("nil" : Str)) && (!decide (z ∈ w_lw) && letters z))) = _
  cases lenOk z <;> cases letters z <;> cases decide (z ∈ w_lw) <;> cases decide (z = ("nil" : Str)) <;> rfl
theorem fromD_int (m n : Int) : fromD m (.int n) = decide (n ≥ m) := rfl
section
variable {P : Program} {w : World} {K : PySem.W.Frag} {mg : Str → Option Value} {base : Heap}
theorem D_is_name (T : Txt K mg) : Df P w K mg base 1 "is_name" ["value"] (spB K nameP) := by
  obtain ⟨f, fd, S⟩ := T.d_is_name
  obtain ⟨aW, h_WORDS, hW⟩ := T.c_WORDS
  refine Df.mk' (k := 0) S sc_is_name (fun vs H Q E h => ?_) (fun cdv A outer s H vs Q E hgd hr h => ?_)
  · obtain ⟨v, d, rfl, _⟩ := h
    rfl
  · obtain ⟨v, d, rfl, hd, hz, k⟩ := h
    have hu := hu_of hr
    refine ⟨_, (pss_cons (ps_if (PW.pt (pw_or (pt_not (pt_val (pe_callB call_isiD (by rfl) T.b_isinstance (by decide +kernel) (pa_cons (pv 0) (pa_cons (pe_bT (n := "str") T.b_str (by decide +kernel)) pa_nil))))) (pw_or1 (pt_not (pt_chain op_le op_le pe_int (pe_callB call_len_str (by rfl) T.b_len (by decide +kernel) (pa_cons (pv 0) pa_nil)) (pe_cI T.c_MAX_LETTERS)))))) (pss_one (ps_ret pe_bl)) pss_nil)
      (pss_one (ps_ret (pe_and (pe_cmpR (op_notInW hr.units) (pv 0) (pe_cR h_WORDS) (by rfl)) (pe_one (pe_callB (cr_all rfl) (by rfl) T.b_all (by decide +kernel) (pa_cons (pe_lc (own := [("sign", 1)]) (g := gName 1) (tt := tYes) rfl sc_is_name.nd (pi_str (pv 0)) (blkOk_by (own := [("sign", 1)]) (N := ["value", "sign"]) (sc := defScope s_is_name) (by decide +kernel)) (fun _ _ _ _ _ => pg_name (i := 1) sc_is_name.nd rfl (.inl rfl)) (fun _ _ _ _ _ => pts_nil) (fun _ _ _ _ _ => (pe_cmpR op_in_sign (pv 1) (pe_cS T.c_LETTERS) (by rfl)))) pa_nil))))))), ?_⟩
    refine ⟨_, rfl, v, d, H, Same.refl H, hd, .inr ⟨rfl, _, rfl, ?_⟩⟩
    rcases str_or d with ⟨z, rfl⟩ | hn
    · obtain rfl := hd.strI
      have hl : z.length ≤ sizeLine := Nat.le_trans (siz_str z) hz.sz
      refine iteF ⟨_, rfl, z, rfl, hl, _, _, rfl, rfl, _, rfl, ite2 (fun h1 => ?_) (fun h1 => ?_)⟩
      · refine ⟨_, _, rfl, rfl, _, rfl, iteNot (fun h2 => ?_) (fun h2 => ?_)⟩
        · have e : nameP (.str z) = false := by
            rw [nameP_str, lenOk, h2, Bool.and_false]
            rfl
          rw [← e]
          exact k _ (Same.refl H)
        · refine ⟨_, rfl, aW, w_WORDS, .str z, H, rfl, .inr (hW H), Same.refl H, hd, _, rfl, ?_⟩
          have e : nameP (.str z) = (!decide (z ∈ w_WORDS) && letters z) := by
            rw [nameP_str, lenOk, h1, h2]
            rfl
          show if (!decide (z ∈ w_WORDS)) = true then _ else _
          refine iteB (fun h3 => ?_) (fun h3 => ?_)
          · rw [h3, Bool.true_and] at e
            refine ⟨_, rfl, z, rfl, fun D hD => lc_it walk_str (fun i H' => Same H H' ∧ H' D = some (.lst ((z.cps.toList.take i).map fun c => V.bl (decide (c ∈ abc))))) ⟨sameAdd hD, upd_same⟩ (fun _ _ _ _ => trivial) ?_ ?_⟩
            · rintro i x H1 _ hi ⟨p1, p2⟩ ⟨rfl, c, hc, rfl⟩
              have hc2 : z.cps.toList[i]? = some c := by rw [Array.getElem?_toList]; exact hc
              refine ⟨rfl, _, rfl, c, _, rfl, rfl, _, p2, ?_, sameOut p1 hD, ?_⟩
              · rw [List.length_map, List.length_take]
                have := hl
                have e8 : z.length = z.cps.size := rfl
                have h8 : (z.length : Int) ≤ 8 := of_decide_eq_true h2
                exact small1000 (by omega)
              · rw [upd_same, List.take_add_one, hc2, Option.toList_some, List.map_append]
                rfl
            · rintro H1 ⟨p1, p2⟩
              rw [show z.cps.size = z.cps.toList.length by simp, List.take_length, bools] at p2
              refine ⟨D, _, rfl, SqL.of p2, ?_⟩
              have e2 : (z.cps.toList.map fun c => decide (c ∈ abc)).all id = letters z := by
                unfold letters
                rw [List.all_map]
                rfl
              rw [e2, ← e]
              exact k _ p1
          · rw [h3, Bool.false_and] at e
            rw [← e]
            exact k _ (Same.refl H)
      · refine ⟨_, rfl, iteT ?_⟩
        have e : nameP (.str z) = false := by
          rw [nameP_str, lenOk, Bool.eq_false_iff.mpr h1]
          rfl
        rw [← e]
        exact k _ (Same.refl H)
    · rw [hn]
      refine iteT (iteT ?_)
      rw [← nameP_no hn]
      exact k _ (Same.refl H)
theorem D_is_termP (T : Txt K mg) : Df P w K mg base 2 "is_term" ["value"] (spB K termP) := by
  have D_is_name := D_is_name (P := P) (w := w) (base := base) T
  obtain ⟨f, fd, S⟩ := T.d_is_term
  refine Df.mk' (k := 1) S sc_is_term (fun vs H Q E h => ?_) (fun cdv A outer s H vs Q E hgd hr h => ?_)
  · obtain ⟨v, d, rfl, _⟩ := h
    rfl
  · obtain ⟨v, d, rfl, hd, hz, k⟩ := h
    refine ⟨_, (pss_one (ps_ret (pe_or (pe_cmpR (op_inW hr.units) (pv 0) (pe_tup (pa_cons pe_str (pa_cons pe_str pa_nil))) (by rfl)) (pe_one (pe_d D_is_name hgd hr (pa_cons (pv 0) pa_nil)))))), ?_⟩
    refine ⟨_, rfl, by show 2 ≤ sizeLine; decide, fun t ht => ?_⟩
    refine ⟨t, w_nr, d, _, rfl, .inr (SqT.of upd_same), Same.refl _, hd.mono (sameAdd ht), _, rfl, ?_⟩
    show if inWs d w_nr = true then _ else _
    refine iteB (fun h1 => ?_) (fun h1 => ?_)
    · have e : termP d = true := by rw [termP, h1, Bool.true_or]
      rw [← e]
      exact k _ (sameAdd ht)
    · have e : termP d = nameP d := by rw [termP, h1, Bool.false_or]
      rw [e] at k
      exact ⟨_, rfl, v, d, rfl, hd.mono (sameAdd ht), hz, fun H2 s2 => k _ ((sameAdd ht).trans s2)⟩
theorem D_is_term (T : Txt K mg) : Df P w K mg base 2 "is_term" ["value"] (spB K termL) := by
  have e : termP = termL := funext term_eq
  rw [← e]
  exact D_is_termP T
theorem D_is_pair (T : Txt K mg) : Df P w K mg base 1 "is_pair" ["value"] (spB K pairD) := by
  obtain ⟨f, fd, S⟩ := T.d_is_pair
  refine Df.mk' (k := 0) S sc_is_pair (fun vs H Q E h => ?_) (fun cdv A outer s H vs Q E hgd hr h => ?_)
  · obtain ⟨v, d, rfl, _⟩ := h
    rfl
  · obtain ⟨v, d, rfl, hd, hz, k⟩ := h
    refine ⟨_, (pss_one (ps_ret (pe_and (pe_callB call_isiD (by rfl) T.b_isinstance (by decide +kernel) (pa_cons (pv 0) (pa_cons (pe_bT (n := "tuple") T.b_tuple (by decide +kernel)) pa_nil))) (pe_one (pe_cmpR op_eq (pe_callB call_len_seq (by rfl) T.b_len (by decide +kernel) (pa_cons (pv 0) pa_nil)) pe_int (nomark _)))))), ?_⟩
    have go := k H (Same.refl H)
    refine ⟨_, rfl, v, d, H, Same.refl H, hd, .inl ⟨rfl, _, rfl, ?_⟩⟩
    rcases tup_or d with ⟨ds, rfl⟩ | hn
    · obtain ⟨b, xs, rfl, hT, hA⟩ := hd.tupI
      refine iteT ⟨_, rfl, b, xs, rfl, .inr hT, rfl, ?_⟩
      rw [pairD_len, ← hA.length] at go
      have e : decide (V.int (xs.length : Int) = V.int 2) = decide (xs.length = 2) := by
        by_cases h : xs.length = 2
        · rw [h]
          rfl
        · rw [decide_eq_false h]
          exact decide_eq_false fun q => h (by have := vint q; omega)
      rw [e]
      exact go
    · rw [pairD_no hn] at go
      rw [hn]
      exact go
theorem D_is_value (T : Txt K mg) : Df P w K mg base 1 "is_value" ["value"] (spB K (fromD 0)) := by
  obtain ⟨f, fd, S⟩ := T.d_is_value
  refine Df.mk' (k := 0) S sc_is_value (fun vs H Q E h => ?_) (fun cdv A outer s H vs Q E hgd hr h => ?_)
  · obtain ⟨v, d, rfl, _⟩ := h
    rfl
  · obtain ⟨v, d, rfl, hd, hz, k⟩ := h
    refine ⟨_, (pss_one (ps_ret (pe_and (pe_callB call_isiA (by rfl) T.b_isinstance (by decide +kernel) (pa_cons (pv 0) (pa_cons (pe_bT (n := "int") T.b_int (by decide +kernel)) pa_nil))) (pe_and (pe_not (pe_callB call_isiA (by rfl) T.b_isinstance (by decide +kernel) (pa_cons (pv 0) (pa_cons (pe_bT (n := "bool") T.b_bool (by decide +kernel)) pa_nil)))) (pe_one (pe_cmpR op_ge (pv 0) pe_int (nomark _))))))), ?_⟩
    have go := k H (Same.refl H)
    refine ⟨_, rfl, v, d, H, Same.refl H, hd, .inl ⟨rfl, _, rfl, iteB (fun h1 => ?_) (fun h1 => ?_)⟩⟩
    · refine ⟨_, rfl, v, d, H, Same.refl H, hd, .inr ⟨rfl, _, rfl, _, rfl, iteNot (fun h2 => ?_) (fun h2 => ?_)⟩⟩
      · cases d with
        | int i =>
          cases hd
          exact ⟨_, rfl, _, _, rfl, rfl, go⟩
        | bool b => cases h2
        | none => cases h1
        | str z => cases h1
        | tuple ds => cases h1
        | list ds => cases h1
        | dict kvs => cases h1
      · cases d with
        | bool b => exact go
        | int i => cases h2
        | none => cases h2
        | str z => cases h2
        | tuple ds => cases h2
        | list ds => cases h2
        | dict kvs => cases h2
    · cases d with
      | bool b => cases h1
      | int i => cases h1
      | none => exact go
      | str z => exact go
      | tuple ds => exact go
      | list ds => exact go
      | dict kvs => exact go
theorem D_is_named (T : Txt K mg) : Df P w K mg base 3 "is_named" ["value"] (spB K nameS) := by
  have D_is_term := D_is_term (P := P) (w := w) (base := base) T
  obtain ⟨f, fd, S⟩ := T.d_is_named
  refine Df.mk' (k := 2) S sc_is_named (fun vs H Q E h => ?_) (fun cdv A outer s H vs Q E hgd hr h => ?_)
  · obtain ⟨v, d, rfl, _⟩ := h
    rfl
  · obtain ⟨v, d, rfl, hd, hz, k⟩ := h
    refine ⟨_, (pss_one (ps_ret (pe_and (pe_d D_is_term hgd hr (pa_cons (pv 0) pa_nil)) (pe_one (pe_cmpR op_ne (pv 0) pe_str (nomark _)))))), ?_⟩
    refine ⟨_, rfl, v, d, rfl, hd, hz, fun H1 q1 => ⟨_, rfl, ?_⟩⟩
    rcases str_or d with ⟨z, rfl⟩ | hn
    · obtain rfl := hd.strI
      rw [nameS_term] at k
      refine iteB (fun h1 => ?_) (fun h1 => ?_)
      · rw [h1, Bool.true_and] at k
        refine ⟨_, rfl, rfl, ?_⟩
        have e : decide (V.str z = V.str "nil") = decide (z = ("nil" : Str)) := by
          by_cases h : z = ("nil" : Str)
          · rw [h]
            rfl
          · rw [decide_eq_false h]
            exact decide_eq_false fun q => h (V.str.inj q)
        rw [e]
        exact k _ q1
      · rw [h1, Bool.false_and] at k
        exact k _ q1
    · rw [nameS_no hn] at k
      rw [termL_no hn]
      exact k _ q1
theorem D_is_address (T : Txt K mg) : Df P w K mg base 2 "is_address" ["value"] (spB K (fromD 1)) := by
  have D_is_value := D_is_value (P := P) (w := w) (base := base) T
  obtain ⟨f, fd, S⟩ := T.d_is_address
  refine Df.mk' (k := 1) S sc_is_address (fun vs H Q E h => ?_) (fun cdv A outer s H vs Q E hgd hr h => ?_)
  · obtain ⟨v, d, rfl, _⟩ := h
    rfl
  · obtain ⟨v, d, rfl, hd, hz, k⟩ := h
    refine ⟨_, (pss_one (ps_ret (pe_and (pe_d D_is_value hgd hr (pa_cons (pv 0) pa_nil)) (pe_one (pe_cmpR op_ne (pv 0) pe_int (nomark _)))))), ?_⟩
    refine ⟨_, rfl, v, d, rfl, hd, hz, fun H1 q1 => ⟨_, rfl, ?_⟩⟩
    have go := k _ q1
    cases d with
    | int i =>
      cases hd
      rw [fromD_int] at go ⊢
      refine iteB (fun h1 => ?_) (fun h1 => ?_)
      · have h1 := of_decide_eq_true h1
        refine ⟨_, rfl, rfl, ?_⟩
        have e : (!decide (V.int i = V.int 0)) = decide (i ≥ 1) := by
          by_cases h : i = 0
          · rw [h]
            rfl
          · rw [decide_eq_true (show i ≥ 1 by omega), decide_eq_false (fun q => h (vint q))]
            rfl
        rw [e]
        exact go
      · have h2 := of_decide_eq_false h1
        rw [decide_eq_false (show ¬ i ≥ 1 by omega)] at go
        exact go
    | bool b => exact go
    | none => exact go
    | str z => exact go
    | tuple ds => exact go
    | list ds => exact go
    | dict kvs => exact go
end
end L2.Hx

/-! Stores and heaps: what the program tells of a value. -/
namespace L2.Hx
open PySem PySem.Spec PyProof.Rows
/-- items, and whether each fits -/
def spRow (K : PySem.W.Frag) : Sp := fun vs H Q _ => ∃ a r xs ds b, vs = [.ref a, .ref r] ∧ SqT K H a xs ∧ DaAll K H xs ds ∧ Fit (.tuple ds) ∧ SqL K H r ((ds.map (itemB b)).map V.bl) ∧ ∀ u H', Same H H' → Da K H' u (dueS b (.tuple ds)) → Q u H'
section
variable {P : Program} {w : World} {K : PySem.W.Frag} {mg : Str → Option Value} {base : Heap}
theorem D_row_error (T : Txt K mg) : Df P w K mg base 1 "row_error" ["items", "fits"] (spRow K) := by
  obtain ⟨f, fd, S⟩ := T.d_row_error
  refine Df.mk' (k := 0) S sc_row_error (fun vs H Q E h => ?_) (fun cdv A outer s H vs Q E hgd hr h => ?_)
  · obtain ⟨a, r, xs, ds, b, rfl, _⟩ := h
    rfl
  · obtain ⟨a, r, xs, ds, b, rfl, hT, hA, hz, hL, k⟩ := h
    refine ⟨_, (pss_cons (ps_for PassesOwn.never rfl (pi_enum rfl T.b_enumerate (pa_cons (pv 1) pa_nil)) (pg_tup rfl (pgs_cons (pg_name (i := 2) sc_row_error.nd rfl (.inl rfl)) (pgs_cons (pg_name (i := 3) sc_row_error.nd rfl (.inl rfl)) pgs_nil)))
      (pss_one (ps_if (pt_not (pt_val (pv 3))) (pss_one (ps_ret (pe_tup (pa_cons pe_str (pa_cons (pv 2) pa_nil))))) pss_nil)))
      (pss_cons (ps_for PassesOwn.never rfl (pi_range2 rfl T.b_range (pa_cons pe_int (pa_cons (pe_callB call_len_seq (by rfl) T.b_len (by decide +kernel) (pa_cons (pv 0) pa_nil)) pa_nil))) (pg_name (i := 2) sc_row_error.nd rfl (.inl rfl))
      (pss_one (ps_if (pt_cmpR op_leSI (pe_ix ix_tup (pe_ix ix_tup (pv 0) (pv 2) (fun _ _ => rfl)) pe_int (fun _ _ => rfl)) (pe_ix ix_tup (pe_ix ix_tup (pv 0) (pe_op op_sub (pv 2) pe_int) (fun _ _ => rfl)) pe_int (fun _ _ => rfl)) (nomark _)) (pss_one (ps_ret (pe_tup (pa_cons pe_str (pa_cons (pv 2) pa_nil))))) pss_nil)))
      (pss_one (ps_ret pe_non)))), ?_⟩
    have hlen := hA.length
    have k2 : dueS b (.tuple ds) = (match itemFrom b 0 ds with
      | some i => tellD "item" (some i)
      | none => tellD "order" (orderFrom 1 ds)) := rfl
    refine ⟨_, rfl, r, _, rfl, hL, for_it walk_enum (fun i σ H1 => ∃ o1 o2, σ = [some (.ref a), some (.ref r), o1, o2] ∧ Same H H1 ∧ itemFrom b 0 ds = itemFrom b i (ds.drop i)) ⟨none, none, rfl, Same.refl H, rfl⟩ (fun i σ H1 _ ⟨_, _, _, p, _⟩ => Same.seq p hL) ?_ ?_⟩
    · rintro i x σ H1 H1' hi ⟨o1, o2, rfl, p1, p2⟩ ⟨t, x1, x2, rfl, ht, rfl, e1, e2⟩
      cases e1
      have hi2 : i < ds.length := by simpa using hi
      obtain ⟨d, hd1⟩ : ∃ d, ds[i]? = some d := ⟨_, List.getElem?_eq_getElem hi2⟩
      have ex : x2 = V.bl (itemB b d) := by
        dsimp only at e2
        rw [List.getElem?_map, List.getElem?_map, hd1] at e2
        exact (Option.some.inj e2).symm
      subst ex
      rw [drop_get hd1, itemFrom] at p2
      have q0 := p1.trans (sameAdd (o := .tup [.int (i : Nat), .bl (itemB b d)]) ht)
      refine ⟨t, _, rfl, SqT.of upd_same, rfl, _, _, rfl, _, _, rfl, rfl, ?_⟩
      generalize upd H1 t (.tup [.int (i : Nat), .bl (itemB b d)]) = H2 at q0 ⊢
      refine ⟨_, rfl, _, rfl, iteNot (fun h4 => ?_) (fun h4 => ?_)⟩
      · rw [h4, if_neg Bool.false_ne_true] at p2
        refine ⟨_, rfl, by show 2 ≤ sizeLine; decide, fun t2 ht2 => ?_⟩
        have e : dueS b (.tuple ds) = .tuple [.str "item", .int (i : Nat)] := by
          rw [k2, p2]
          rfl
        refine k _ _ (q0.trans (sameAdd ht2)) ?_
        rw [e]
        exact .tup (SqT.of upd_same) (.cons (.str _) (.cons (.int _) .nil))
      · rw [h4, if_pos rfl] at p2
        exact ⟨_, _, rfl, q0, p2⟩
    · rintro σ H1 ⟨o1, o2, rfl, p1, p2⟩
      have p3 : itemFrom b 0 ds = none := by
        rw [p2, show ((ds.map (itemB b)).map V.bl).length = ds.length by simp, List.drop_length]
        rfl
      have good := all_items p3
      have k3 : dueS b (.tuple ds) = tellD "order" (orderFrom 1 ds) := by
        rw [k2, p3]
      rw [k3] at k
      have lz : xs.length ≤ sizeLine := by
        rw [hlen]
        exact Nat.le_trans (siz_len ds) hz.sz
      have big : sizeLine < 2 ^ 61 := by decide
      refine ⟨_, rfl, a, xs, rfl, .inr (sameT p1 hT), 1, _, rfl, ⟨by decide, by decide, by omega, by omega⟩, for_range (lo := 1) (n := ((xs.length : Int) - 1).toNat) (fun i σ H2 => ∃ o1 o2, σ = [some (.ref a), some (.ref r), o1, o2] ∧ Same H H2 ∧ orderFrom 1 ds = orderFrom (i + 1) (ds.drop i)) ⟨_, _, rfl, p1, rfl⟩ ?_ ?_⟩
      · rintro i σ H2 hi ⟨o1, o2, rfl, s2, ord⟩
        have l1 : i + 1 < xs.length := by omega
        obtain ⟨dp, hp1, hp2⟩ := hA.get (List.getElem?_eq_getElem (show i < xs.length by omega))
        obtain ⟨dq, hq1, hq2⟩ := hA.get (List.getElem?_eq_getElem l1)
        rw [orderFrom_step hp1 hq1] at ord
        obtain ⟨x1, y1, rfl, k1⟩ := item_key (good _ (List.mem_of_getElem? hp1))
        obtain ⟨x2, y2, rfl, k4⟩ := item_key (good _ (List.mem_of_getElem? hq1))
        obtain ⟨c1, w1, e1, t1, a1⟩ := hp2.tupI
        obtain ⟨c2, w2, e2, t2, a2⟩ := hq2.tupI
        have i1 : atI xs (1 + (i : Int) - 1) = some (.ref c1) := by
          rw [show (1 + (i : Int) - 1) = ((i : Nat) : Int) by omega]
          obtain ⟨z, hz1, _⟩ := atI_nat2 (xs := xs) (i := (i : Int)) (by omega) (by omega)
          rw [← e1]
          unfold atI ixN
          rw [if_pos (by omega), if_pos (by omega)]
          show xs[i]? = _
          exact List.getElem?_eq_getElem (by omega)
        have i2 : atI xs (1 + (i : Int)) = some (.ref c2) := by
          rw [← e2]
          unfold atI ixN
          rw [if_pos (by omega), if_pos (by omega)]
          show xs[(1 + (i : Int)).toNat]? = _
          rw [show (1 + (i : Int)).toNat = i + 1 by omega]
          exact List.getElem?_eq_getElem l1
        cases a1 with
        | cons f1 r1 =>
          cases a2 with
          | cons f2 r2 =>
            cases r1 with
            | cons g1 r1 =>
            cases r1
            cases r2 with
            | cons g2 r2 =>
            cases r2
            rename_i u1 u2 v1 v2
            have fin : ∀ c, leD x2 x1 = c → if c = true then ∀ t, H2 t = none → Q (.ref t) (upd H2 t (.tup [.str "order", .int (1 + (i : Int))])) else orderFrom 1 ds = orderFrom (i + 1 + 1) (ds.drop (i + 1)) := fun c hc => by
              cases c with
              | true =>
                rw [if_pos (show leD (firstD (.tuple [x2, y2])) (firstD (.tuple [x1, y1])) = true from hc)] at ord
                rw [if_pos rfl]
                intro t ht
                refine k _ _ (s2.trans (sameAdd ht)) ?_
                rw [ord]
                show Da K _ _ (.tuple [.str "order", .int ((i + 1 : Nat) : Int)])
                rw [show ((i + 1 : Nat) : Int) = 1 + (i : Int) by omega]
                exact .tup (SqT.of upd_same) (.cons (.str _) (.cons (.int _) .nil))
              | false =>
                rw [if_neg (show ¬ leD (firstD (.tuple [x2, y2])) (firstD (.tuple [x1, y1])) = true from fun q => by rw [show leD (firstD (.tuple [x2, y2])) (firstD (.tuple [x1, y1])) = false from hc] at q; cases q)] at ord
                rw [if_neg Bool.false_ne_true]
                exact ord
            dsimp only [gName, List.set]
            refine ⟨_, rfl, _, rfl, a, xs, _, _, rfl, rfl, sameT s2 hT, i2, c2, _, 0, u2, rfl, rfl, sameT s2 t2, rfl, _, rfl, _, rfl, _, _, rfl, rfl, a, xs, _, _, rfl, rfl, sameT s2 hT, i1, c1, _, 0, u1, rfl, rfl, sameT s2 t1, rfl, ?_⟩
            unfold KeyOk at k1 k4
            by_cases hb : b = true
            · rw [if_pos hb] at k1 k4
              obtain ⟨z1, rfl⟩ := k1
              obtain ⟨z2, rfl⟩ := k4
              cases f1.strI
              cases f2.strI
              refine .inr ⟨z2, z1, rfl, rfl, _, rfl, iteB (fun h => ?_) (fun h => ?_)⟩
              · have q := fin true h
                rw [if_pos rfl] at q
                exact ⟨_, rfl, by show 2 ≤ sizeLine; decide, fun t ht => q t ht⟩
              · have q := fin false h
                rw [if_neg Bool.false_ne_true] at q
                exact ⟨_, _, rfl, s2, q⟩
            · rw [if_neg hb] at k1 k4
              obtain ⟨z1, rfl⟩ := k1
              obtain ⟨z2, rfl⟩ := k4
              cases f1
              cases f2
              refine .inl ⟨z2, z1, rfl, rfl, _, rfl, iteB (fun h => ?_) (fun h => ?_)⟩
              · have q := fin true h
                rw [if_pos rfl] at q
                exact ⟨_, rfl, by show 2 ≤ sizeLine; decide, fun t ht => q t ht⟩
              · have q := fin false h
                rw [if_neg Bool.false_ne_true] at q
                exact ⟨_, _, rfl, s2, q⟩
      · rintro σ H2 ⟨o1, o2, rfl, s2, ord⟩
        refine k _ _ s2 ?_
        have le : ds.length ≤ ((xs.length : Int) - 1).toNat + 1 := by omega
        have none1 : orderFrom 1 ds = none := by
          rw [ord]
          generalize ((xs.length : Int) - 1).toNat = m at le
          have l2 : (ds.drop m).length ≤ 1 := by
            rw [List.length_drop]
            omega
          match ds.drop m, l2 with
          | [], _ => rfl
          | [_], _ => rfl
        rw [none1]
        exact .non
theorem DS_store_error (T : Txt K mg) : DfS P w K mg base 4 "store_error" s_store_error ["value"] (spErr K true) := by
  have D_row_error := D_row_error (P := P) (w := w) (base := base) T
  have D_is_pair := D_is_pair (P := P) (w := w) (base := base) T
  have D_is_named := D_is_named (P := P) (w := w) (base := base) T
  have D_is_value := D_is_value (P := P) (w := w) (base := base) T
  obtain ⟨f, fd, S⟩ := T.d_store_error
  refine DfS.mk' (k := 3) S sc_store_error (fun vs H Q E h => ?_) (fun cdv A outer s H vs Q E hgd hr h => ?_)
  · obtain ⟨v, d, rfl, _⟩ := h
    rfl
  · obtain ⟨v, d, rfl, hd, hz, k⟩ := h
    refine ⟨_, (pss_cons (ps_if (pt_not (pt_val (pe_callB call_isiD (by rfl) T.b_isinstance (by decide +kernel) (pa_cons (pv 0) (pa_cons (pe_bT (n := "tuple") T.b_tuple (by decide +kernel)) pa_nil))))) (pss_one (ps_ret pe_str)) pss_nil)
      (pss_one (ps_ret (pe_d D_row_error hgd hr (pa_cons (pv 0) (pa_cons (pe_lc (own := [("item", 1)]) (g := gName 1) (tt := tYes) (te := tAndV (tCall (spB K pairD) [] E0 (tCons (tVar 1) tNil)) (tAndV (tCall (spB K nameS) [] E0 (tCons (tOp (rIxT K) (tVar 1) (tC (.int 0))) tNil)) (tCall (spB K (fromD 0)) [] E0 (tCons (tOp (rIxT K) (tVar 1) (tC (.int 1))) tNil)))) rfl sc_store_error.nd (pi_tup (pv 0)) (blkOk_by (own := [("item", 1)]) (N := ["value", "item"]) (sc := defScope s_store_error) (by decide +kernel)) (fun _ _ _ _ _ => pg_name (i := 1) sc_store_error.nd rfl (.inl rfl)) (fun _ _ _ _ _ => pts_nil) (fun _ _ _ _ _ => (pe_and (pe_d D_is_pair hgd hr (pa_cons (pv 1) pa_nil)) (pe_and (pe_d D_is_named hgd hr (pa_cons (pe_ix ix_tup (pv 1) pe_int (fun _ _ => rfl)) pa_nil)) (pe_one (pe_d D_is_value hgd hr (pa_cons (pe_ix ix_tup (pv 1) pe_int (fun _ _ => rfl)) pa_nil))))))) pa_nil)))))), ?_⟩
    refine ⟨_, rfl, v, d, H, Same.refl H, hd, .inl ⟨rfl, _, rfl, ?_⟩⟩
    rcases tup_or d with ⟨ds, rfl⟩ | hn
    · obtain ⟨a, xs, rfl, hT, hA⟩ := hd.tupI
      have hlen := hA.length
      refine iteF ⟨_, rfl, _, rfl, a, rfl, ⟨_, hT⟩, fun D hD => lc_tup (K := K) (a := a) (xs := xs) (fun i H1 => Same H H1 ∧ H1 D = some (.lst ((ds.take i).map fun d => V.bl (itemB true d)))) ⟨sameAdd hD, upd_same⟩ (fun i H1 _ p => sameT p.1 hT) ?_ ?_⟩
      · rintro i x H1 hx ⟨p1, p2⟩
        obtain ⟨d, hd1, hd2⟩ := hA.get hx
        have hi := (List.getElem?_eq_some_iff.mp hd1).1
        have fitd := hz.kid (List.mem_of_getElem? hd1)
        have lds : ds.length ≤ sizeLine := Nat.le_trans (siz_len ds) hz.sz
        have fin : ∀ c H3, Same H1 H3 → c = itemB true d → ∃ acc, H3 D = some (.lst acc) ∧ acc.length < sizeLine ∧ (Same H (upd H3 D (.lst (acc ++ [V.bl c]))) ∧ (upd H3 D (.lst (acc ++ [V.bl c]))) D = some (.lst ((ds.take (i + 1)).map fun d => V.bl (itemB true d)))) := fun c H3 q3 e => by
          refine ⟨_, q3 _ _ p2, ?_, sameOut (p1.trans q3) hD, ?_⟩
          · rw [List.length_map, List.length_take]
            omega
          · rw [upd_same, e, List.take_add_one, hd1, Option.toList_some, List.map_append]
            rfl
        refine ⟨rfl, yes_if ⟨_, rfl, x, d, rfl, hd2.mono p1, fitd, fun H2 q2 => ⟨_, rfl, ?_⟩⟩⟩
        rcases tup_or d with ⟨es, rfl⟩ | hn
        · rw [pairD_len]
          obtain ⟨c, ys, rfl, cT, cA⟩ := (hd2.mono (p1.trans q2)).tupI
          refine iteB (fun h4 => ?_) (fun h4 => ?_)
          · obtain ⟨dx, dy, rfl⟩ := len2 (of_decide_eq_true h4)
            have it : itemB true (.tuple [dx, dy]) = (fromD 0 dy && nameS dx) := rfl
            cases cA with
            | cons c1 cA =>
              cases cA with
              | cons c2 cA =>
                cases cA
                rename_i y1 y2
                refine ⟨_, rfl, c, _, 0, y1, rfl, rfl, cT, rfl, y1, dx, rfl, c1, fitd.kid (by simp), fun H3 q3 => ⟨_, rfl, iteB (fun h5 => ?_) (fun h5 => ?_)⟩⟩
                · refine ⟨_, rfl, c, _, 1, y2, rfl, rfl, sameT q3 cT, rfl, y2, dy, rfl, c2.mono q3, fitd.kid (by simp), fun H4 q4 => ?_⟩
                  exact fin _ _ (q2.trans (q3.trans q4)) (by rw [it, h5, Bool.and_true])
                · exact fin _ _ (q2.trans q3) (by rw [it, h5, Bool.and_false])
          · exact fin _ _ q2 (by rw [itemB_len (of_decide_eq_false h4)])
        · rw [pairD_no hn]
          exact fin _ _ q2 (itemB_no hn).symm
      · rintro H1 ⟨p1, p2⟩
        rw [hlen, List.take_length, show (ds.map fun d => V.bl (itemB true d)) = (ds.map (itemB true)).map V.bl by rw [List.map_map]; rfl] at p2
        exact ⟨a, D, xs, ds, true, rfl, sameT p1 hT, hA.mono p1, hz, SqL.of p2, fun u H2 q2 du => k u H2 (p1.trans q2) du⟩
    · rw [hn]
      refine iteT (k _ _ (Same.refl H) ?_)
      rw [dueS_no hn]
      exact .str _
theorem D_store_error (T : Txt K mg) : Df P w K mg base 4 "store_error" ["value"] (spErr K true) := (DS_store_error T).df
theorem DS_heap_error (T : Txt K mg) : DfS P w K mg base 4 "heap_error" s_heap_error ["value"] (spErr K false) := by
  have D_row_error := D_row_error (P := P) (w := w) (base := base) T
  have D_is_pair := D_is_pair (P := P) (w := w) (base := base) T
  have D_is_address := D_is_address (P := P) (w := w) (base := base) T
  have D_is_value := D_is_value (P := P) (w := w) (base := base) T
  obtain ⟨f, fd, S⟩ := T.d_heap_error
  refine DfS.mk' (k := 3) S sc_heap_error (fun vs H Q E h => ?_) (fun cdv A outer s H vs Q E hgd hr h => ?_)
  · obtain ⟨v, d, rfl, _⟩ := h
    rfl
  · obtain ⟨v, d, rfl, hd, hz, k⟩ := h
    refine ⟨_, (pss_cons (ps_if (pt_not (pt_val (pe_callB call_isiD (by rfl) T.b_isinstance (by decide +kernel) (pa_cons (pv 0) (pa_cons (pe_bT (n := "tuple") T.b_tuple (by decide +kernel)) pa_nil))))) (pss_one (ps_ret pe_str)) pss_nil)
      (pss_one (ps_ret (pe_d D_row_error hgd hr (pa_cons (pv 0) (pa_cons (pe_lc (own := [("item", 1)]) (g := gName 1) (tt := tYes) (te := tAndV (tCall (spB K pairD) [] E0 (tCons (tVar 1) tNil)) (tAndV (tCall (spB K (fromD 1)) [] E0 (tCons (tOp (rIxT K) (tVar 1) (tC (.int 0))) tNil)) (tCall (spB K (fromD 0)) [] E0 (tCons (tOp (rIxT K) (tVar 1) (tC (.int 1))) tNil)))) rfl sc_heap_error.nd (pi_tup (pv 0)) (blkOk_by (own := [("item", 1)]) (N := ["value", "item"]) (sc := defScope s_heap_error) (by decide +kernel)) (fun _ _ _ _ _ => pg_name (i := 1) sc_heap_error.nd rfl (.inl rfl)) (fun _ _ _ _ _ => pts_nil) (fun _ _ _ _ _ => (pe_and (pe_d D_is_pair hgd hr (pa_cons (pv 1) pa_nil)) (pe_and (pe_d D_is_address hgd hr (pa_cons (pe_ix ix_tup (pv 1) pe_int (fun _ _ => rfl)) pa_nil)) (pe_one (pe_d D_is_value hgd hr (pa_cons (pe_ix ix_tup (pv 1) pe_int (fun _ _ => rfl)) pa_nil))))))) pa_nil)))))), ?_⟩
    refine ⟨_, rfl, v, d, H, Same.refl H, hd, .inl ⟨rfl, _, rfl, ?_⟩⟩
    rcases tup_or d with ⟨ds, rfl⟩ | hn
    · obtain ⟨a, xs, rfl, hT, hA⟩ := hd.tupI
      have hlen := hA.length
      refine iteF ⟨_, rfl, _, rfl, a, rfl, ⟨_, hT⟩, fun D hD => lc_tup (K := K) (a := a) (xs := xs) (fun i H1 => Same H H1 ∧ H1 D = some (.lst ((ds.take i).map fun d => V.bl (itemB false d)))) ⟨sameAdd hD, upd_same⟩ (fun i H1 _ p => sameT p.1 hT) ?_ ?_⟩
      · rintro i x H1 hx ⟨p1, p2⟩
        obtain ⟨d, hd1, hd2⟩ := hA.get hx
        have hi := (List.getElem?_eq_some_iff.mp hd1).1
        have fitd := hz.kid (List.mem_of_getElem? hd1)
        have lds : ds.length ≤ sizeLine := Nat.le_trans (siz_len ds) hz.sz
        have fin : ∀ c H3, Same H1 H3 → c = itemB false d → ∃ acc, H3 D = some (.lst acc) ∧ acc.length < sizeLine ∧ (Same H (upd H3 D (.lst (acc ++ [V.bl c]))) ∧ (upd H3 D (.lst (acc ++ [V.bl c]))) D = some (.lst ((ds.take (i + 1)).map fun d => V.bl (itemB false d)))) := fun c H3 q3 e => by
          refine ⟨_, q3 _ _ p2, ?_, sameOut (p1.trans q3) hD, ?_⟩
          · rw [List.length_map, List.length_take]
            omega
          · rw [upd_same, e, List.take_add_one, hd1, Option.toList_some, List.map_append]
            rfl
        refine ⟨rfl, yes_if ⟨_, rfl, x, d, rfl, hd2.mono p1, fitd, fun H2 q2 => ⟨_, rfl, ?_⟩⟩⟩
        rcases tup_or d with ⟨es, rfl⟩ | hn
        · rw [pairD_len]
          obtain ⟨c, ys, rfl, cT, cA⟩ := (hd2.mono (p1.trans q2)).tupI
          refine iteB (fun h4 => ?_) (fun h4 => ?_)
          · obtain ⟨dx, dy, rfl⟩ := len2 (of_decide_eq_true h4)
            have it : itemB false (.tuple [dx, dy]) = (fromD 0 dy && fromD 1 dx) := rfl
            cases cA with
            | cons c1 cA =>
              cases cA with
              | cons c2 cA =>
                cases cA
                rename_i y1 y2
                refine ⟨_, rfl, c, _, 0, y1, rfl, rfl, cT, rfl, y1, dx, rfl, c1, fitd.kid (by simp), fun H3 q3 => ⟨_, rfl, iteB (fun h5 => ?_) (fun h5 => ?_)⟩⟩
                · refine ⟨_, rfl, c, _, 1, y2, rfl, rfl, sameT q3 cT, rfl, y2, dy, rfl, c2.mono q3, fitd.kid (by simp), fun H4 q4 => ?_⟩
                  exact fin _ _ (q2.trans (q3.trans q4)) (by rw [it, h5, Bool.and_true])
                · exact fin _ _ (q2.trans q3) (by rw [it, h5, Bool.and_false])
          · exact fin _ _ q2 (by rw [itemB_len (of_decide_eq_false h4)])
        · rw [pairD_no hn]
          exact fin _ _ q2 (itemB_no hn).symm
      · rintro H1 ⟨p1, p2⟩
        rw [hlen, List.take_length, show (ds.map fun d => V.bl (itemB false d)) = (ds.map (itemB false)).map V.bl by rw [List.map_map]; rfl] at p2
        exact ⟨a, D, xs, ds, false, rfl, sameT p1 hT, hA.mono p1, hz, SqL.of p2, fun u H2 q2 du => k u H2 (p1.trans q2) du⟩
    · rw [hn]
      refine iteT (k _ _ (Same.refl H) ?_)
      rw [dueS_no hn]
      exact .str _
theorem D_heap_error (T : Txt K mg) : Df P w K mg base 4 "heap_error" ["value"] (spErr K false) := (DS_heap_error T).df
end
end L2.Hx

/-! A tuple turned about, and a tuple beside the empty one. -/
namespace L2.Hx
open PySem PySem.Spec PyProof.Rows HT
section
variable {prog : Program} {w : World} {A : Around} {E : Value → Shared → Prop} {s : Shared}
theorem adjust_rev (n : Nat) : Builtin.Slice.sliceAdjust none none (-1) (n : Int) = ((n : Int) - 1, -1) := by
  unfold Builtin.Slice.sliceAdjust
  simp
theorem places_rev (n : Nat) : Builtin.Slice.slicePlaces ((n : Int) - 1) (-1) (-1) = n := by
  unfold Builtin.Slice.slicePlaces
  have h1 : ¬ ((-1 : Int) > 0) := by omega
  have h2 : (-(-1) : Int) = 1 := by omega
  simp only [h1, if_false, h2, Int.ediv_one]
  split <;> omega
theorem fm_congr {α : Type} {f g : Nat → Option α} : ∀ {l : List Nat}, (∀ m ∈ l, f m = g m) → l.filterMap f = l.filterMap g
  | [], _ => rfl
  | m :: l, h => by
    rw [List.filterMap_cons, List.filterMap_cons, h m List.mem_cons_self, fm_congr fun x hx => h x (List.mem_cons_of_mem _ hx)]
theorem sliceApplied_rev {sl : Addr} {vs : Value} {n : Nat} {Q : Int × Int × Nat → Shared → Prop} (hs : s.heap.IsSliceOf sl .none .none vs) (ps : IsPart vs (some (-1))) (h : Q ((n : Int) - 1, -1, n) s) :
    wpAny (model prog w) A (Builtin.Slice.sliceApplied (.ref sl) (pure (n : Int))) Q E s := by
  obtain ⟨os, hos, hcs, hds⟩ := id hs
  unfold Builtin.Slice.sliceApplied Builtin.Slice.sliceFields
  refine wpAny_bind (wpAny_bind (wpAny_field hos hds (x := .none) rfl (wpAny_bind (wpAny_field hos hds (x := .none) rfl (wpAny_bind (wpAny_field hos hds (x := vs) rfl (wpAny_pure ?_)))))))
  refine wpAny_bind (slicePart_ ps ?_)
  show wpAny _ _ (if ((-1 : Int) == 0) = true then _ else _) _ _ s
  rw [if_neg (by decide)]
  refine wpAny_bind (PyProof.Rows.slicePart_none (wpAny_bind (PyProof.Rows.slicePart_none (wpAny_bind (wpAny_pure ?_)))))
  show wpAny _ _ (match Builtin.Slice.sliceAdjust none none (-1) (n : Int) with | (lo, hi) => pure (lo, (-1 : Int), Builtin.Slice.slicePlaces lo hi (-1))) _ _ s
  rw [adjust_rev]
  show wpAny _ _ (pure ((n : Int) - 1, (-1 : Int), Builtin.Slice.slicePlaces ((n : Int) - 1) (-1) (-1))) _ _ s
  rw [places_rev]
  exact wpAny_pure h
theorem pick_rev (xs : Array Value) : ((List.range xs.size).filterMap fun (m : Nat) => xs[(((xs.size : Int) - 1) + (m : Int) * (-1)).toNat]?).toArray = xs.toList.reverse.toArray := by
  have e : (List.range xs.size).filterMap (fun (m : Nat) => xs[(((xs.size : Int) - 1) + (m : Int) * (-1)).toNat]?) = (List.range xs.size).filterMap (fun (m : Nat) => (xs.toList.reverse.toArray)[(((0 : Nat) : Int) + (m : Int) * 1).toNat]?) := by
    refine fm_congr fun m hm => ?_
    have hm := List.mem_range.mp hm
    rw [show (((0 : Nat) : Int) + (m : Int) * 1).toNat = m by omega, show xs.toList.reverse.toArray[m]? = xs.toList.reverse[m]? by simp, List.getElem?_reverse (by rw [Array.length_toList]; exact hm), Array.getElem?_toList, Array.length_toList]
    congr 1
    omega
  rw [e, pick_gen, List.drop_zero, List.toList_toArray, List.take_of_length_le (by simp)]
theorem getItem_tuple_rev {t sl : Addr} {items : Array Value} {vs : Value} {Q : Value → Shared → Prop} (ht : IsTup s.heap t items) (hs : s.heap.IsSliceOf sl .none .none vs) (ps : IsPart vs (some (-1)))
    (h : Q (.ref s.heap.objs.size) { s with heap := s.heap.push { cls := .type "tuple", data := .seq items.toList.reverse.toArray } }) (hsz : items.size ≤ sizeLine) : wpAny (model prog w) A (getItem (.ref t) (.ref sl)) Q E s := by
  have htake : sizeOk (.seq items.toList.reverse.toArray) := by
    show items.toList.reverse.toArray.size ≤ sizeLine
    rw [List.size_toArray, List.length_reverse, Array.length_toList]
    exact hsz
  obtain ⟨os, hos, hcs, hds⟩ := id hs
  have hTs : s.TypeIs (.ref sl) "slice" := ⟨os, hos, hcs⟩
  unfold getItem
  try with_reducible refine wpAny_holding ?_
  first | refine wpAny_bind (wpAny_pure ?_) | skip
  refine wpAny_bind (wpAny_sequenceKey ht.typeIs (by decide) ?_)
  refine wpAny_bind (wpAny_callSpecial?_slot (name := Str.ofString "__getitem__") ht.typeIs PyProof.Rows.slot_tuple_getitem
    (wpAny_call_entry PyProof.Rows.slot_tuple_getitem ht.typeIs entry_tuple_getitem ?_ (args_tuple_getitem _ _)))
  show wpAny _ _ (Builtin.Tuple.tupleItemsOf (.ref t) >>= _) _ _ s
  refine wpAny_bind (tupleItemsOf_ ht ?_)
  refine wpAny_bind (wpAny_typeOf hTs ?_)
  rw [if_pos (by decide)]
  refine wpAny_bind (sliceApplied_rev hs ps ?_)
  have hno : ¬ ((((items.size : Int) - 1) == 0 && (-1 : Int) == 1 && items.size == items.size) = true) := by simp
  show wpAny _ _ (if (((items.size : Int) - 1) == 0 && (-1 : Int) == 1 && items.size == items.size) = true then _ else _) _ _ s
  rw [if_neg hno, pick_rev]
  first
    | exact wpAny_bind (m := Builtin.Tuple.tupleExact _) (wpAny_newObj_type (wpAny_pure ⟨_, rfl, wpAny_pure h⟩) htake)
    | exact wpAny_bind (m := Builtin.Tuple.tupleExact _) (wpAny_newObj_type (wpAny_bind (wpAny_pure (wpAny_pure ⟨_, rfl, wpAny_pure h⟩))) htake)
    | exact wpAny_bind (wpAny_bind (m := Builtin.Tuple.tupleExact _) (wpAny_newObj_type (wpAny_pure (wpAny_pure ⟨_, rfl, wpAny_pure h⟩)) htake))
    | exact wpAny_bind (wpAny_bind (m := Builtin.Tuple.tupleExact _) (wpAny_newObj_type (wpAny_pure ⟨_, rfl, wpAny_pure h⟩) htake))
end
/-- t[::-1] -/
def tRevT (K : PySem.W.Frag) (te : TE) : TE := fun σ H Q => te σ H fun x H1 => ∃ a xs, x = .ref a ∧ SqT K H1 a xs ∧ ∀ p, H1 p = none → Q (.ref p) (upd H1 p (.tup xs.reverse))
theorem pe_revT {X : Cx} {e : Expr} {te : TE} {k : Nat} {p1 p2 p3 pos : Pos} (he : PE X e te) : PE X (.Subscript e (.Slice none none (some (.UnaryOp .USub (.Constant (.int 1) k p1) p2)) p3) pos) (tRevT X.K te) := by
  refine ⟨fun pins s σ H Q I h => ?_⟩
  refine Subscript_ (thn (he.run pins s σ H _ I h) fun v s1 ⟨x, H1, I1, r1, q1⟩ => ?_)
  obtain ⟨a, xs, ex, hx, q⟩ := q1
  subst ex
  cases r1
  have hst : PO X (some (.UnaryOp .USub (.Constant (.int 1) k p1) p2)) (tPart (tUn (rU fun i => .int (-i)) (tC (.int 1)))) := po_some (pe_un un_neg pe_int)
  refine wpAny_Slice (thn (po_none.run pins s1 σ H1 (fun o H2 => o = none ∧ H2 = H1) I1 ⟨rfl, rfl⟩) fun vl s2 ⟨l, H2, I2, pl, el, e2⟩ => ?_)
  subst el e2
  refine thn (po_none.run pins s2 σ H2 (fun o H3 => o = none ∧ H3 = H2) I2 ⟨rfl, rfl⟩) fun vu s3 ⟨u, H3, I3, pu, eu, e3⟩ => ?_
  subst eu e3
  refine thn (hst.run pins s3 σ H3 (fun o H4 => o = some (-1) ∧ H4 = H3) I3 ⟨1, rfl, -1, rfl, rfl, rfl⟩) fun vs s4 ⟨o, H4, I4, ps, eo, e4⟩ => ?_
  subst eo e4
  have I5 : Inv X pins σ H4 { s4 with heap := s4.heap.push { cls := .type "slice", data := .fields #[vl, vu, vs] } } := I4.kept (t' := s4.toks) fun b ob q => Heap.get?_push_of_some _ q
  obtain ⟨its, r, ht, hz⟩ := I5.tuple hx
  have hlen := r.length
  cases pl
  cases pu
  show wpAny (model X.prog X.w) X.A (subscriptTail e (.Slice none none (some (.UnaryOp .USub (.Constant (.int 1) k p1) p2)) p3) (.ref a) (.ref s4.heap.objs.size)) (EP X pins σ Q) X.xe { s4 with heap := s4.heap.push { cls := .type "slice", data := .fields #[.none, .none, vs] } }
  refine tail_any (ops := [.ref a, .ref s4.heap.objs.size]) ht.typeIs (PyProof.Rows.slot_tuple_getitem.lookup) ?_ (by with_unfolding_all rfl)
  refine getItem_tuple_rev ht (Heap.IsSliceOf.new _ .none .none vs) ps ?_ (by rw [List.size_toArray]; omega)
  refine ⟨.ref _, _, I5.laid (t' := s4.toks) (o := .tup xs.reverse) (fun b ob q => Heap.get?_push_of_some _ q) (Nat.le_refl _) ?_, rfl, q _ (I5.hok.fresh (Nat.le_refl _))⟩
  exact ⟨by rw [List.length_reverse]; omega, its.reverse, r.reverse, ⟨_, Heap.get?_push_size _ rfl, rfl, _, rfl⟩⟩
/-! ### t == () -/
def rEqNil (K : PySem.W.Frag) : R2 := fun x y H Q => ∃ a b xs, x = .ref a ∧ y = .ref b ∧ SqT K H a xs ∧ SqT K H b [] ∧ Q (.bl xs.isEmpty) H
theorem op_eqNil {X : Cx} (hu : X.A.units + 64 < cLine) : OpR X (compareOp .Eq) (rEqNil X.K) := by
  intro pins s σ H x y v u Q I rx ry h
  obtain ⟨a, b, xs, rfl, rfl, ha, hb, q⟩ := h
  cases rx
  cases ry
  obtain ⟨its, r1, p1, _⟩ := I.tuple ha
  obtain ⟨its2, r2, p2, _⟩ := I.tuple hb
  cases r2
  refine SeqAt.RcAt.tuples (e := fun _ => true) p1 p2 (by omega) (fun j h1 h2 => absurd h2 (by simp)) _ _ _ _ ⟨.bl _, H, I, rfl, ?_⟩
  have e : ((List.range (min its.toArray.size ([] : List Value).toArray.size)).all (fun _ => true) && its.toArray.size == ([] : List Value).toArray.size) = xs.isEmpty := by
    cases xs with
    | nil =>
      cases r1
      rfl
    | cons x xs =>
      cases r1
      rfl
  rw [e]
  exact q
end L2.Hx

/-! Stores and heaps: the law's draws. -/
namespace L2.Hx
open PySem PySem.Spec PyProof.Rows
def leZ (a b : Str) : Prop := a.cps.toList ≤ b.cps.toList
theorem rising_pw : ∀ (l : List Str) (p : Str), risingS p l = true → (p :: l).Pairwise leZ
  | [], p, _ => List.pairwise_singleton _ _
  | x :: r, p, h => by
    have h1 : (!ltCps x.cps.toList p.cps.toList && risingS x r) = true := h
    obtain ⟨a, b⟩ := Bool.and_eq_true_iff.mp h1
    have px : leZ p x := by
      rw [ltCps_eq] at a
      have a2 : ¬ x.cps.toList < p.cps.toList := by simpa using a
      exact List.not_lt.mp a2
    have ih := rising_pw r x b
    refine List.pairwise_cons.mpr ⟨fun y hy => ?_, ih⟩
    rcases List.mem_cons.mp hy with rfl | hy
    · exact px
    · exact List.le_trans px ((List.pairwise_cons.mp ih).1 y hy)
theorem sorted_pw : ∀ (l : List Str), sortedS l = true → l.Pairwise leZ
  | [], _ => List.Pairwise.nil
  | x :: r, h => rising_pw r x h
theorem leZ_anti {a b : Str} (h1 : leZ a b) (h2 : leZ b a) : a = b := by
  have e := List.le_antisymm h1 h2
  obtain ⟨x⟩ := a
  obtain ⟨y⟩ := b
  have e2 : x = y := Array.toList_inj.mp e
  rw [e2]
theorem erase_strs : ∀ (ns : List Str) (j : Nat), (ns.map V.str).eraseIdx j = (ns.eraseIdx j).map V.str
  | [], _ => rfl
  | _ :: _, 0 => rfl
  | n :: ns, j + 1 => congrArg (V.str n :: ·) (erase_strs ns j)
theorem dp_strs {K : PySem.W.Frag} {H : Hp} : ∀ ns : List Str, DpAll K H (ns.map V.str) (ns.map PyData.str)
  | [] => .nil
  | n :: ns => .cons (.str n) (dp_strs ns)
def w_pool : List Str := ["x", "y", "z", "result", "abcdefgh", "b", "aa", "nilx", "cellar"]
theorem eqv_nilZ (ns : List Str) : PyData.eqv (.list (ns.map PyData.str)) (.list []) = decide (ns = []) := by
  cases ns <;> simp [PyData.eqv, PyData.eqvAll]
theorem pool_strOk : ∀ x ∈ w_pool, PyData.strOk x = true := List.all_eq_true.mp (by decide +kernel)
theorem shaped_strs (ns : List Str) (hp : ∀ x ∈ ns, x ∈ w_pool) : SeqAt.shaped (.list (ns.map PyData.str)) = true := by
  have h1 : ∀ ns : List Str, (∀ x ∈ ns, x ∈ w_pool) → PyData.canLayAll0 (ns.map PyData.str) = true := fun ns => by
    induction ns with
    | nil => exact fun _ => rfl
    | cons n ns ih =>
      intro h
      simpa [PyData.canLayAll0, PyData.canLay0] using ⟨pool_strOk n (h n List.mem_cons_self), ih fun x m => h x (List.mem_cons_of_mem _ m)⟩
  have h2 : ∀ ns : List Str, PyData.depthAll (ns.map PyData.str) ≤ 1 := fun ns => by
    induction ns with
    | nil => simp [PyData.depthAll]
    | cons n ns ih =>
      simp only [List.map_cons, PyData.depthAll, PyData.depth]
      omega
  have a := h1 ns hp
  have b := h2 ns
  unfold SeqAt.shaped
  rw [Bool.and_eq_true]
  refine ⟨by simpa [PyData.canLay0] using a, decide_eq_true ?_⟩
  simp only [PyData.depth]
  omega
theorem erase_perm {α : Type} : ∀ (l : List α) (i : Nat) (h : i < l.length), (l[i] :: l.eraseIdx i).Perm l
  | [], i, h => absurd h (Nat.not_lt_zero i)
  | x :: xs, 0, _ => .refl _
  | x :: xs, i + 1, h => (List.Perm.swap x (xs[i]'(Nat.lt_of_succ_lt_succ h)) (xs.eraseIdx i)).trans ((erase_perm xs i (Nat.lt_of_succ_lt_succ h)).cons x)
theorem ltZ_of {a b : Str} (h : leZ a b) (n : a ≠ b) : a.cps.toList < b.cps.toList := by
  by_cases q : a.cps.toList < b.cps.toList
  · exact q
  · exact absurd (leZ_anti h (List.not_lt.mp q)) n
/-- what may stand first in a right item, by number or name -/
def KeyF (b : Bool) (x : PyData) : Prop := if b = true then ∃ z ∈ w_pool, x = .str z else ∃ i : Int, x = .int i ∧ 1 ≤ i ∧ i.natAbs.log2 < 1920
/-- a right store (b), or heap, of m items at most -/
def GoodD (b : Bool) (m : Nat) (e : PyData) : Prop := ∃ ds, e = .tuple ds ∧ ds.length ≤ m ∧ (∀ d ∈ ds, ∃ x n, d = .tuple [x, .int n] ∧ KeyF b x ∧ 0 ≤ n ∧ n.natAbs.log2 < 1920) ∧ ds.Pairwise fun p d => leD (firstD d) (firstD p) = false
theorem pool_good : ∀ z ∈ w_pool, nameS (.str z) = true ∧ okB (.str z) = true ∧ siz (.str z) ≤ 100 := by
  have h : (w_pool.all fun z => nameS (.str z) && (okB (.str z) && decide (siz (.str z) ≤ 100))) = true := by decide +kernel
  rw [List.all_eq_true] at h
  intro z m
  have q := h z m
  rw [Bool.and_eq_true, Bool.and_eq_true] at q
  exact ⟨q.1, q.2.1, of_decide_eq_true q.2.2⟩
theorem good_item {b : Bool} {d x : PyData} {n : Int} (e : d = .tuple [x, .int n]) (hx : KeyF b x) (hn : 0 ≤ n) : itemB b d = true := by
  subst e
  show (fromD 0 (.int n) && (if b = true then nameS x else fromD 1 x)) = true
  rw [fromD_int, decide_eq_true hn, Bool.true_and]
  unfold KeyF at hx
  cases b with
  | true =>
    rw [if_pos rfl] at hx ⊢
    obtain ⟨z, hz, rfl⟩ := hx
    exact (pool_good z hz).1
  | false =>
    rw [if_neg Bool.false_ne_true] at hx ⊢
    obtain ⟨i, rfl, hi, _⟩ := hx
    exact decide_eq_true hi
theorem items_none {b : Bool} : ∀ {ds : List PyData} (i : Nat), (∀ d ∈ ds, itemB b d = true) → itemFrom b i ds = none
  | [], _, _ => rfl
  | d :: ds, i, h => by
    rw [itemFrom, if_pos (h d List.mem_cons_self)]
    exact items_none (i + 1) fun x m => h x (List.mem_cons_of_mem _ m)
theorem order_none : ∀ {ds : List PyData} (i : Nat), (ds.Pairwise fun p d => leD (firstD d) (firstD p) = false) → orderFrom i ds = none
  | [], _, _ => rfl
  | [_], _, _ => rfl
  | p :: d :: ds, i, h => by
    have h1 := List.pairwise_cons.mp h
    rw [orderFrom, if_neg (by rw [h1.1 d List.mem_cons_self]; exact Bool.false_ne_true)]
    exact order_none (i + 1) h1.2
theorem GoodD.due {b : Bool} {m : Nat} {e : PyData} (h : GoodD b m e) : dueS b e = .none := by
  obtain ⟨ds, rfl, _, h1, h2⟩ := h
  show (match itemFrom b 0 ds with
      | some i => tellD "item" (some i)
      | none => tellD "order" (orderFrom 1 ds)) = .none
  rw [items_none 0 fun d m => by
    obtain ⟨x, n, e, hx, hn, _⟩ := h1 d m
    exact good_item e hx hn, order_none 1 h2]
  rfl
theorem KeyF.okd {b : Bool} {x : PyData} (h : KeyF b x) : Okd 0 2000 x := by
  unfold KeyF at h
  cases b with
  | true =>
    rw [if_pos rfl] at h
    obtain ⟨z, hz, rfl⟩ := h
    have q := pool_good z hz
    exact ⟨q.2.1, Nat.zero_le _, by omega⟩
  | false =>
    rw [if_neg Bool.false_ne_true] at h
    obtain ⟨i, rfl, _, hi⟩ := h
    exact ⟨decide_eq_true hi, Nat.zero_le _, by show 1921 ≤ 2000; decide⟩
/-- a tuple of pairs of two flat things -/
def FlatD (m : Nat) (e : PyData) : Prop := ∃ ds, e = .tuple ds ∧ ds.length ≤ m ∧ ∀ d ∈ ds, ∃ x y, d = .tuple [x, y] ∧ Okd 0 2000 x ∧ Okd 0 2000 y
theorem GoodD.flat {b : Bool} {m : Nat} {e : PyData} (h : GoodD b m e) : FlatD m e := by
  obtain ⟨ds, rfl, l, h1, _⟩ := h
  refine ⟨ds, rfl, l, fun d mm => ?_⟩
  obtain ⟨x, n, e, hx, _, hn⟩ := h1 d mm
  exact ⟨x, .int n, e, hx.okd, decide_eq_true hn, Nat.zero_le _, by show 1921 ≤ 2000; decide⟩
theorem pair_okd {x y : PyData} (hx : Okd 0 2000 x) (hy : Okd 0 2000 y) : Okd 1 5000 (.tuple [x, y]) := by
  refine Okd.tup (k := 0) (n := 2000) (m := 2) (fun z m => ?_) (Nat.le_refl 2)
  rcases List.mem_cons.mp m with rfl | m
  · exact hx
  · rw [List.mem_singleton.mp m]
    exact hy
theorem FlatD.tp {m : Nat} {e : PyData} (h : FlatD m e) : Tp 1 5000 m e := by
  obtain ⟨ds, rfl, l, h1⟩ := h
  refine ⟨ds, rfl, l, fun d mm => ?_⟩
  obtain ⟨x, y, rfl, hx, hy⟩ := h1 d mm
  exact pair_okd hx hy
def IntD (B : Int) (d : PyData) : Prop := ∃ n : Int, d = .int n ∧ 0 ≤ n ∧ n ≤ B
/-- m of them, each as told -/
def AllF (φ : PyData → Prop) (m : Nat) (ds : List PyData) : Prop := ds.length = m ∧ ∀ d ∈ ds, φ d
section
variable {K : PySem.W.Frag} {p l : Addr} {σ : St} {G : Hp} {φ : PyData → Prop} {t te : TE} {tr : TA} {m : Nat} {B : Int}
theorem tds_nilF : TDs K p l σ G tNil (AllF φ 0) := fun G1 H Q W _ k => k _ _ _ _ (Ext.refl W) .nil ⟨rfl, fun d h => absurd h List.not_mem_nil⟩
theorem tds_consF (h : TD K p l σ G t φ) (hr : TDs K p l σ G tr (AllF φ m)) : TDs K p l σ G (tCons t tr) (AllF φ (m + 1)) := fun G1 H Q W s k =>
  tds_consP h hr G1 H Q W s fun vs ds G2 H2 e da f => k vs ds G2 H2 e da (by
    obtain ⟨d, r, rfl, h1, l1, h2⟩ := f
    refine ⟨by rw [List.length_cons, l1], fun x mx => ?_⟩
    rcases List.mem_cons.mp mx with rfl | mx
    · exact h1
    · exact h2 x mx)
theorem td_lstF (h : TDs K p l σ G tr (AllF φ (m + 1))) (hz : m + 1 < 1000000 := by decide) : TD K p l σ G (tLst tr) (LsP φ) := TD.imp (td_lstP h fun ds f => by
  have : 1000000 ≤ sizeLine := by decide
  rw [f.1]
  omega) fun d ⟨ds, e, l1, h1⟩ => ⟨ds, e, by omega, by omega, h1⟩
theorem td_intF {i : Int} (h0 : 0 ≤ i := by decide) (h1 : i ≤ B := by decide) : TD K p l σ G (tC (.int i)) (IntD B) := .flat (fun _ => .int i) ⟨i, rfl, h0, h1⟩
theorem td_powF {i : Int} (h : (0 : Int) ≤ 10 ^ i.toNat ∧ (10 : Int) ^ i.toNat ≤ B := by decide +kernel) (hc : CPow 10 i := by exact ⟨by decide, by decide, by decide⟩) : TD K p l σ G (tOp (rI CPow fun i j => .int (i ^ j.toNat)) (tC (.int 10)) (tC (.int i))) (IntD B) := fun G1 H Q W s kk =>
  ⟨10, i, rfl, rfl, hc, kk _ _ _ _ (Ext.refl W) (.int _) ⟨_, rfl, h.1, h.2⟩⟩
theorem td_varI {j : Nat} {i : Int} (hj : σ[j]? = some (some (.int i))) (h0 : 0 ≤ i) (h1 : i ≤ B) : TD K p l σ G (tVar j) (IntD B) := td_var hj (.int i) ⟨i, rfl, h0, h1⟩
theorem td_addI {j : Nat} {i c : Int} (hj : σ[j]? = some (some (.int i))) (h0 : 0 ≤ i + c) (h1 : i + c ≤ B) : TD K p l σ G (tOp (rI0 fun i j => .int (i + j)) (tVar j) (tC (.int c))) (IntD B) := fun G1 H Q W s kk =>
  ⟨_, hj, _, _, rfl, rfl, kk _ _ _ _ (Ext.refl W) (.int _) ⟨_, rfl, h0, h1⟩⟩
/-- [e for x in xs], xs a list of its own -/
theorem td_lcl {a : Addr} {xs : List V} {i j : Nat} {φ : Nat → PyData → Prop} (hi : σ[i]? = some (some (.ref a))) (hS : SqL K G a xs) (hM : xs.length < sizeLine) (he : ∀ n x, xs[n]? = some x → TD K p l ((σ.set j none).set j (some x)) G te (φ n)) :
    TD K p l σ G (tLc (iList K (tVar i)) (gName j) tYes te [j]) (fun d => ∃ ds, d = .list ds ∧ ds.length = xs.length ∧ ∀ n e, ds[n]? = some e → φ n e) := fun G1 H Q W s k =>
  ⟨_, hi, a, rfl, ⟨xs, (s.trans W.same).seq hS⟩, fun D hD => by
    have nDp := W.np hD
    have nDl := W.nl hD
    have E1 := W.tmp (o := .lst []) hD
    refine lc_list (K := K) (a := a) (xs := xs) (fun i H3 => ∃ G3 vs ds, Wd p l G3 H3 ∧ Same G1 G3 ∧ G3 D = none ∧ H3 D = some (.lst vs) ∧ DaAll K G3 vs ds ∧ ds.length = i ∧ (∀ n e, ds[n]? = some e → φ n e) ∧
        (∀ b o, b ≠ p → b ≠ l → b ≠ D → H b = some o → H3 b = some o) ∧ (∀ b o, H b = some o → G1 b = none → G3 b = none))
      ⟨G1, [], [], E1.w, Same.refl _, W.same.free hD, upd_same, .nil, rfl, fun n e m => (by cases n <;> cases m), fun b o n1 n2 n3 q => by rw [upd_ne n3]; exact q, fun b o _ g => g⟩
      (fun i H3 _ ⟨G3, vs, ds, w3, s3, _⟩ => ((s.trans s3).trans w3.same).seq hS) ?_ ?_
    · rintro n x H3 hx ⟨G3, vs, ds, w3, s3, gD, hD3, da3, l3, f3, k3, n3⟩
      have hn := (List.getElem?_eq_some_iff.mp hx).1
      refine ⟨set_none σ, ?_⟩
      show te _ _ _
      refine he n x hx G3 H3 _ w3 (s.trans s3) fun v d G4 H4 e4 da4 f4 => ?_
      have hD4 : H4 D = some (.lst vs) := e4.keep _ _ nDp nDl hD3
      have gD4 : G4 D = none := e4.new _ _ hD3 gD
      refine ⟨vs, hD4, by rw [da3.length, l3]; omega, G4, vs ++ [v], ds ++ [d], e4.w.own nDp nDl gD4, s3.trans e4.sub, gD4, upd_same, (da3.mono e4.sub).append (.cons da4 .nil),
        by rw [List.length_append, l3]; rfl, fun n2 e2 m => ?_, fun b o n1 n2 n4 q => ?_, fun b o q g => ?_⟩
      · rw [List.getElem?_append] at m
        split at m
        · exact f3 _ _ m
        · have hn2 : n2 - ds.length = 0 := by
            have := (List.getElem?_eq_some_iff.mp m).1
            rw [List.length_singleton] at this
            omega
          rw [hn2] at m
          cases m
          have : n2 = n := by omega
          rw [this]
          exact f4
      · rw [upd_ne n4]
        exact e4.keep _ _ n1 n2 (k3 b o n1 n2 n4 q)
      · have g3 := n3 b o q g
        by_cases b1 : b = p
        · subst b1
          exact e4.w.gp
        · by_cases b2 : b = l
          · subst b2
            exact e4.w.gl
          · exact e4.new b o (k3 b o b1 b2 (ne_of_none q hD) q) g3
    · rintro H3 ⟨G3, vs, ds, w3, s3, gD, hD3, da3, l3, f3, k3, n3⟩
      obtain ⟨w4, s4⟩ := w3.hold nDp nDl gD hD3
      have E2 : Ext p l G1 H (upd G3 D (.lst vs)) H3 := ⟨w4, s3.trans s4, fun b o n1 n2 q => k3 b o n1 n2 (ne_of_none q hD) q, fun b o q g => by
        rw [upd_ne (ne_of_none q hD)]
        exact n3 b o q g⟩
      exact k _ _ _ _ E2 (.lst upd_same (da3.mono s4)) ⟨ds, rfl, l3, f3⟩⟩
/-- tuple(xs), xs a list of which ψ tells -/
theorem td_tupleG {ta : TE} {ψ : List PyData → Prop} (ha : TD K p l σ G ta (fun d => ∃ ds, d = .list ds ∧ ψ ds)) :
    TD K p l σ G (tCB (fun xs H Q => ∃ p ys, xs = [.ref p] ∧ ((SqL K H p ys ∧ ∀ l, H l = none → Q (.ref l) (upd H l (.tup ys))) ∨ (SqT K H p ys ∧ Q (.ref p) H))) (tCons ta tNil)) (fun d => ∃ ds, d = .tuple ds ∧ ψ ds) := fun G1 H Q W s k =>
  ha G1 H _ W s fun v d G2 H2 e da f => by
    obtain ⟨ds, rfl, o1⟩ := f
    cases da with
    | @lst a xs _ t1 a1 =>
      refine ⟨a, xs, rfl, .inl ⟨SqL.of (e.w.same _ _ t1), fun q hq => ?_⟩⟩
      have e4 := e.w.put (o := .tup xs) hq
      exact k _ _ _ _ (e.trans W e4) (.tup (SqT.of upd_same) (a1.mono e4.sub)) ⟨ds, rfl, o1⟩
end
theorem cut_strs (ns : List Str) (lo hi : Option Int) : ∃ ms : List Str, cutV (ns.map V.str) lo hi = ms.map V.str ∧ ms.Sublist ns := by
  refine ⟨(ns.drop (HT.sIx (ns.map V.str).length 0 lo)).take (HT.sIx (ns.map V.str).length (ns.map V.str).length hi - HT.sIx (ns.map V.str).length 0 lo), ?_, (List.take_sublist _ _).trans (List.drop_sublist _ _)⟩
  unfold cutV
  rw [List.map_take, List.map_drop]
/-- items in another order -/
def spShuf (K : PySem.W.Frag) : Sp := fun vs H Q _ => ∃ (p l : Addr) (G : Hp) (a : Addr) (ws : List Str), vs = [.ref p, .ref a] ∧ Wd p l G H ∧ SqL K G a (ws.map V.str) ∧ ws.length ≤ 1000 ∧ (∀ x ∈ ws, x ∈ w_pool) ∧
  ∀ (r : Addr) (ys : List Str) (H' : Hp), Ext p l G H G H' → r ≠ p → r ≠ l → H' r = some (.lst (ys.map V.str)) → ys.Perm ws → Q (.ref r) H'
def spStore (K : PySem.W.Frag) : Sp := fun vs H Q _ => ∃ (p l : Addr) (G : Hp), vs = [.ref p] ∧ Wd p l G H ∧ ∀ u e G2 H2, Ext p l G H G2 H2 → Da K G2 u e → GoodD true 9 e → Q u H2
def spHeap (K : PySem.W.Frag) : Sp := fun vs H Q _ => ∃ (p l : Addr) (G : Hp) (many : Nat), vs = [.ref p, .int (many : Int)] ∧ many ≤ 300 ∧ Wd p l G H ∧ ∀ u e G2 H2, Ext p l G H G2 H2 → Da K G2 u e → GoodD false many e → Q u H2
section
variable {P : Program} {w : World} {K : PySem.W.Frag} {mg : Str → Option Value} {base : Heap}
theorem D_l_shuffled (T : Txt K mg) : Df P w K mg base 2 "_law_shuffled" ["deck", "items"] (spShuf K) := by
  have D_l_draw := D_draw (P := P) (w := w) (base := base) T
  obtain ⟨f, fd, S⟩ := T.d_l_shuffled
  refine Df.mk' (k := 1) S sc_l_shuffled (fun vs H Q E h => ?_) (fun cdv A outer s H vs Q E hgd hr h => ?_)
  · obtain ⟨p, l, G, a, ws, rfl, _⟩ := h
    rfl
  · obtain ⟨p, l, G, a, ws, rfl, W, aL, lw, wp, k⟩ := h
    have line5 : (5000 : Nat) ≤ sizeLine := by decide
    refine ⟨_, (pss_cons (ps_par (i := 2) (j := 3) (by rfl) sc_l_shuffled.nd rfl rfl (by decide) rfl rfl (pa_cons (pe_callTy call_list_of (by rfl) T.b_list (by decide +kernel) (pa_cons (pv 1) pa_nil)) (pa_cons (pe_lst pa_nil) pa_nil)) (by rfl))
      (pss_cons (ps_while PassesOwn.never (pt_cmpR (op_neD hr.units) (pv 2) (pe_lst pa_nil) (nomark _)) (pss_one (ps_expr (pe_bm PySem.F.plainAttrs_list PySem.F.slot_list_append PySem.F.type_list_append mt_append (pv 3) (pa_cons (pe_bm PySem.F.plainAttrs_list PySem.F.slot_list_pop PySem.F.type_list_pop mt_popAt (pv 2) (pa_cons (pe_d D_l_draw hgd hr (pa_cons (pv 0) (pa_cons (pe_callB call_len_seq (by rfl) T.b_len (by decide +kernel) (pa_cons (pv 2) pa_nil)) pa_nil))) pa_nil)) pa_nil)))))
      (pss_one (ps_ret (pv 3))))), ?_⟩
    refine ⟨_, rfl, a, ws.map V.str, rfl, .inl (W.same.seq aL), fun q hq => ⟨Nat.zero_le _, fun r hr' => ⟨_, _, rfl, ?_⟩⟩⟩
    have nqr : q ≠ r := fun e => by
      rw [← e, upd_same] at hr'
      cases hr'
    have e1 := W.tmp (o := .lst (ws.map V.str)) hq
    have e2 := e1.w.tmp (o := .lst []) hr'
    have qp := W.np hq
    have ql := W.nl hq
    have rp := e1.w.np hr'
    have rl := e1.w.nl hr'
    have gq : G q = none := W.same.free hq
    have gr : G r = none := e1.w.same.free hr'
    have E2 := e1.trans W e2
    have q2 : (upd (upd H q (.lst (ws.map V.str))) r (.lst [])) q = some (.lst (ws.map V.str)) := by rw [upd_ne nqr, upd_same]
    have r2 : (upd (upd H q (.lst (ws.map V.str))) r (.lst [])) r = some (.lst (([] : List Str).map V.str)) := upd_same
    generalize upd (upd H q (.lst (ws.map V.str))) r (.lst []) = H2 at E2 q2 r2 ⊢
    refine ⟨fun m σ H3 => σ = [some (.ref p), some (.ref a), some (.ref q), some (.ref r)] ∧ ∃ xs ys : List Str, m = xs.length ∧ (xs ++ ys).Perm ws ∧ Ext p l G H G H3 ∧ H3 q = some (.lst (xs.map V.str)) ∧ H3 r = some (.lst (ys.map V.str)),
      ⟨ws.length, rfl, ws, [], rfl, by rw [List.append_nil], E2, q2, r2⟩, ?_⟩
    rintro m σ H3 ⟨rfl, xs, ys, rfl, pm, E3, q3, r3⟩
    have lxy : xs.length + ys.length = ws.length := by rw [← List.length_append]; exact pm.length_eq
    have px : ∀ x ∈ xs, x ∈ w_pool := fun x m => wp x (pm.mem_iff.mp (List.mem_append_left _ m))
    refine ⟨_, rfl, Nat.zero_le _, fun t ht => ?_⟩
    have nqt : q ≠ t := fun e => by
      rw [← e, q3] at ht
      cases ht
    have nrt : r ≠ t := fun e => by
      rw [← e, r3] at ht
      cases ht
    have E4 := E3.trans W (E3.w.tmp (o := .lst []) ht)
    have q4 : (upd H3 t (.lst [])) q = some (.lst (xs.map V.str)) := by rw [upd_ne nqt]; exact q3
    have r4 : (upd H3 t (.lst [])) r = some (.lst (ys.map V.str)) := by rw [upd_ne nrt]; exact r3
    refine ⟨.list (xs.map PyData.str), .list [], .lst (SqL.of q4) (dp_strs xs), .lst (SqL.of upd_same) .nil, shaped_strs xs px, rfl, _, rfl, ?_⟩
    rw [eqv_nilZ]
    generalize upd H3 t (.lst []) = H4 at E4 q4 r4 ⊢
    refine iteNot (fun hn => ?_) (fun hn => ?_)
    · have ne : xs ≠ [] := of_decide_eq_false hn
      have pos : 0 < xs.length := List.length_pos_iff.mpr ne
      refine ⟨fun σ H5 => σ = [some (.ref p), some (.ref a), some (.ref q), some (.ref r)] ∧ ∃ xs2 ys2 : List Str, xs2.length < xs.length ∧ (xs2 ++ ys2).Perm ws ∧ Ext p l G H G H5 ∧ H5 q = some (.lst (xs2.map V.str)) ∧ H5 r = some (.lst (ys2.map V.str)),
        fun σ H5 ⟨e, xs2, ys2, lt, h⟩ => ⟨xs2.length, lt, e, xs2, ys2, rfl, h⟩, ?_⟩
      refine ⟨_, rfl, .inl ⟨rfl, _, SqL.of r4⟩, _, rfl, .inl ⟨rfl, _, SqL.of q4⟩, _, rfl, _, rfl, q, xs.map V.str, rfl, .inl (SqL.of q4), p, l, G, _, rfl, by rw [List.length_map]; omega, by rw [List.length_map]; omega, E4.w, fun d H5 d0 d1 e5 => ?_⟩
      rw [List.length_map] at d1
      have dn : d.toNat < xs.length := by omega
      have q5 := e5.keep _ _ qp ql q4
      have r5 := e5.keep _ _ rp rl r4
      have pm2 : (xs.eraseIdx d.toNat ++ (ys ++ [xs[d.toNat]])).Perm ws := by
        refine List.Perm.trans ?_ pm
        refine List.Perm.trans ?_ ((erase_perm xs d.toNat dn).append_right ys)
        rw [← List.append_assoc]
        exact List.perm_append_comm
      refine ⟨q, xs.map V.str, d, d.toNat, .str xs[d.toNat], rfl, rfl, q5, by omega, by omega, ?_, by rw [List.getElem?_map, List.getElem?_eq_getElem dn]; rfl, ?_⟩
      · rw [List.length_map]
        have d2 : ¬ d < 0 := by omega
        simp [seqIndex?, d2, d0, d1]
      · have E5 := (E4.trans W e5)
        have W6 := E5.w.own (o := .lst ((xs.map V.str).eraseIdx d.toNat)) qp ql gq
        refine ⟨r, ys.map V.str, _, rfl, rfl, by rw [upd_ne nqr.symm]; exact r5, by rw [List.length_map]; omega, rfl, xs.eraseIdx d.toNat, ys ++ [xs[d.toNat]], ?_, pm2, ?_, ?_, ?_⟩
        · rw [List.length_eraseIdx_of_lt dn]
          omega
        · refine ⟨W6.own rp rl gr, Same.refl G, fun b o n1 n2 hb => ?_, fun b o hb g => g⟩
          have nbq : b ≠ q := ne_of_none hb hq
          have nbr : b ≠ r := ne_of_none hb (by
            cases z : H r with
            | none => rfl
            | some o2 =>
              rw [upd_ne nqr.symm, z] at hr'
              cases hr')
          rw [upd_ne nbr, upd_ne nbq]
          exact E5.keep b o n1 n2 hb
        · rw [upd_ne nqr, upd_same, erase_strs]
        · rw [upd_same, List.map_append]
          rfl
    · have ne : xs = [] := of_decide_eq_true hn
      subst ne
      exact ⟨_, rfl, k r ys H4 E4 rp rl r4 pm⟩
end
end L2.Hx

/-! Stores and heaps: a drawn store, a drawn heap. -/
namespace L2.Hx
open PySem PySem.Spec PyProof.Rows
abbrev B60 : Int := 1000000000000000000000000000000000000000000000000000000000000
theorem small_log {n : Int} (h0 : 0 ≤ n) (h1 : n ≤ 1000 * B60) : n.natAbs.log2 < 1920 := by
  have h2 : n.natAbs < 2 ^ 210 := by
    have h3 : (1000 * B60 : Int) < ((2 ^ 210 : Nat) : Int) := by decide
    omega
  exact Nat.lt_trans (PySem.Flt.log2_lt_of (by decide) h2) (by decide)
section
variable {P : Program} {w : World} {K : PySem.W.Frag} {mg : Str → Option Value} {base : Heap}
theorem D_l_store (T : Txt K mg) : Df P w K mg base 3 "_law_store" ["deck"] (spStore K) := by
  have D_l_draw := D_draw (P := P) (w := w) (base := base) T
  have D_l_pick := D_pick (P := P) (w := w) (base := base) T
  have D_l_shuffled := D_l_shuffled (P := P) (w := w) (base := base) T
  obtain ⟨f, fd, S⟩ := T.d_l_store
  refine Df.mk' (k := 2) S sc_l_store (fun vs H Q E h => ?_) (fun cdv A outer s H vs Q E hgd hr h => ?_)
  · obtain ⟨p, l, G, rfl, _⟩ := h
    rfl
  · obtain ⟨p, l, G, rfl, W, kk⟩ := h
    refine ⟨_, (pss_cons (ps_set (i := 1) sc_l_store.nd rfl (.inl rfl) (pe_lst (pa_cons pe_str (pa_cons pe_str (pa_cons pe_str (pa_cons pe_str (pa_cons pe_str (pa_cons pe_str (pa_cons pe_str (pa_cons pe_str (pa_cons pe_str pa_nil)))))))))))
      (pss_cons (ps_set (i := 2) sc_l_store.nd rfl (.inl rfl) (pe_callB cr_sortedS (by rfl) T.b_sorted (by decide +kernel) (pa_cons (pe_slice sl_list (pe_d D_l_shuffled hgd hr (pa_cons (pv 0) (pa_cons (pv 1) pa_nil))) po_none (po_some (pe_d D_l_draw hgd hr (pa_cons (pv 0) (pa_cons pe_int pa_nil))))) pa_nil)))
      (pss_one (ps_ret (pe_callTy call_tuple_of (by rfl) T.b_tuple (by decide +kernel) (pa_cons (pe_lc (own := [("name", 3)]) (g := gName 3) (tt := tYes) rfl sc_l_store.nd (pi_list (pv 2)) (blkOk_by (own := [("name", 3)]) (N := ["deck", "pool", "names", "name"]) (sc := defScope s_l_store) (by decide +kernel)) (fun _ _ _ _ _ => pg_name (i := 3) sc_l_store.nd rfl (.inl rfl)) (fun _ _ _ _ _ => pts_nil) (fun _ _ _ _ _ => (pe_tup (pa_cons (pv 3) (pa_cons (pe_d D_l_pick hgd hr (pa_cons (pv 0) (pa_cons (pe_lst (pa_cons pe_int (pa_cons pe_int (pa_cons pe_int (pa_cons pe_int (pa_cons (pe_op op_pow pe_int pe_int) (pa_cons (pe_op op_pow pe_int pe_int) pa_nil))))))) pa_nil))) pa_nil))))) pa_nil)))))), ?_⟩
    refine ⟨by show 9 ≤ sizeLine; decide, fun q hq => ?_⟩
    have e1 := W.put (o := .lst (w_pool.map V.str)) hq
    have nq : (upd G q (.lst (w_pool.map V.str))) q = some (.lst (w_pool.map V.str)) := upd_same
    refine ⟨_, rfl, _, rfl, p, l, upd G q (.lst (w_pool.map V.str)), q, w_pool, rfl, e1.w, SqL.of nq, by decide, fun x m => m, fun r ys H2 e2 rp rl hr2 pm => ?_⟩
    refine ⟨_, rfl, p, l, upd G q (.lst (w_pool.map V.str)), 10, rfl, by decide, by decide, e2.w, fun d H3 d0 d1 e3 => ⟨d, rfl, r, ys.map V.str, rfl, SqL.of (e3.keep _ _ rp rl hr2), fun t ht => ?_⟩⟩
    obtain ⟨ms, c1, c2⟩ := cut_strs ys none (some d)
    rw [c1]
    have e4 := e3.w.tmp (o := .lst (ms.map V.str)) ht
    have lm : ms.length ≤ 9 := Nat.le_trans c2.length_le (Nat.le_of_eq pm.length_eq)
    refine ⟨t, ms, rfl, SqL.of upd_same, by omega, fun zs u pm2 srt hu => ?_⟩
    have e5 := e4.w.put (o := .lst (zs.map V.str)) hu
    have E5 := (((e1.trans W e2).trans W e3).trans W e4).trans W e5
    have lz : zs.length ≤ 9 := by rw [pm2.length_eq]; exact lm
    have mz : ∀ z ∈ zs, z ∈ w_pool := fun z m => pm.mem_iff.mp (c2.subset (pm2.mem_iff.mp m))
    have nd : zs.Nodup := by
      have n0 : w_pool.Nodup := by decide +kernel
      exact pm2.nodup_iff.mpr ((pm.nodup_iff.mpr n0).sublist c2)
    have pw := sorted_pw zs srt
    have nu : (upd (upd G q (.lst (w_pool.map V.str))) u (.lst (zs.map V.str))) u = some (.lst (zs.map V.str)) := upd_same
    dsimp only [gName, List.set]
    refine TD.ret (K := K) (p := p) (l := l) (G := upd (upd G q (.lst (w_pool.map V.str))) u (.lst (zs.map V.str))) (φ := GoodD true 9) ?h E5.w (fun v e G6 H6 x da f => kk v e G6 H6 (E5.trans W x) da f)
    refine TD.imp (td_tupleG (ψ := fun ds => ds.length = (zs.map V.str).length ∧ ∀ (n : Nat) (e : PyData), ds[n]? = some e → ∃ (z : Str) (v : Int), zs[n]? = some z ∧ e = PyData.tuple [.str z, .int v] ∧ 0 ≤ v ∧ v ≤ B60)
      (td_lcl rfl (SqL.of nu) (by rw [List.length_map]; have : (100 : Nat) ≤ sizeLine := by decide
                                  omega) fun n x hx => ?_)) fun e ⟨ds, he, hl, hf⟩ => ?_
    · rw [List.getElem?_map] at hx
      obtain ⟨z, hz, rfl⟩ := Option.map_eq_some_iff.mp hx
      refine TD.imp (td_tupP (tds_consP (td_var (φ := fun d => d = .str z) rfl (.str z) rfl) (tds_consP (td_pick (ψ := IntD B60) (td_lstF (tds_consF td_intF (tds_consF td_intF (tds_consF td_intF (tds_consF td_intF (tds_consF td_powF (tds_consF td_powF tds_nilF))))))) rfl) tds_nilP)) ?cc) ?dd
      case cc =>
        rintro ds ⟨d, r, rfl, _, d2, r2, rfl, _, rfl⟩
        show 2 ≤ sizeLine
        decide
      case dd =>
        rintro d ⟨ds, rfl, d, r, rfl, rfl, d2, r2, rfl, ⟨v, rfl, v0, v1⟩, rfl⟩
        exact ⟨z, v, hz, rfl, v0, v1⟩
    · rw [List.length_map] at hl
      refine ⟨ds, he, by omega, fun d m => ?_, ?_⟩
      · obtain ⟨n, hn⟩ := List.mem_iff_getElem?.mp m
        obtain ⟨z, v, hz, e, v0, v1⟩ := hf n d hn
        exact ⟨.str z, v, e, by unfold KeyF; rw [if_pos rfl]; exact ⟨z, mz z (List.mem_of_getElem? hz), rfl⟩, v0, small_log v0 (by omega)⟩
      · refine List.pairwise_iff_getElem.mpr fun i j hi hj lt => ?_
        obtain ⟨z1, v1, hz1, e1, _⟩ := hf i _ (List.getElem?_eq_getElem hi)
        obtain ⟨z2, v2, hz2, e2, _⟩ := hf j _ (List.getElem?_eq_getElem hj)
        rw [e1, e2]
        show (!decide (z1.cps.toList < z2.cps.toList)) = false
        obtain ⟨i1, q1⟩ := List.getElem?_eq_some_iff.mp hz1
        obtain ⟨i2, q2⟩ := List.getElem?_eq_some_iff.mp hz2
        have a1 := List.pairwise_iff_getElem.mp pw i j i1 i2 lt
        have a2 := List.pairwise_iff_getElem.mp nd i j i1 i2 lt
        rw [q1, q2] at a1 a2
        rw [decide_eq_true (ltZ_of a1 a2)]
        rfl
theorem D_l_heap (T : Txt K mg) : Df P w K mg base 3 "_law_heap" ["deck", "many"] (spHeap K) := by
  have D_l_pick := D_pick (P := P) (w := w) (base := base) T
  obtain ⟨f, fd, S⟩ := T.d_l_heap
  refine Df.mk' (k := 2) S sc_l_heap (fun vs H Q E h => ?_) (fun cdv A outer s H vs Q E hgd hr h => ?_)
  · obtain ⟨p, l, G, many, rfl, _⟩ := h
    rfl
  · obtain ⟨p, l, G, many, rfl, hm, W, kk⟩ := h
    refine ⟨_, (pss_cons (ps_par (i := 2) (j := 3) (by rfl) sc_l_heap.nd rfl rfl (by decide) rfl rfl (pa_cons pe_int (pa_cons (pe_lst pa_nil) pa_nil)) (by rfl))
      (pss_cons (ps_for PassesOwn.never rfl (pi_range1 rfl T.b_range (pa_cons (pv 1) pa_nil)) (pg_name (i := 4) sc_l_heap.nd rfl (.inl rfl))
      (pss_cons (ps_set (i := 2) sc_l_heap.nd rfl (.inl rfl) (pe_op op_add (pe_op op_add (pv 2) pe_int) (pe_d D_l_pick hgd hr (pa_cons (pv 0) (pa_cons (pe_lst (pa_cons pe_int (pa_cons pe_int (pa_cons pe_int (pa_cons pe_int (pa_cons (pe_op op_pow pe_int pe_int) (pa_cons (pe_op op_pow pe_int pe_int) pa_nil))))))) pa_nil)))))
      (pss_one (ps_expr (pe_bm PySem.F.plainAttrs_list PySem.F.slot_list_append PySem.F.type_list_append mt_append (pv 3) (pa_cons (pe_tup (pa_cons (pv 2) (pa_cons (pe_d D_l_pick hgd hr (pa_cons (pv 0) (pa_cons (pe_lst (pa_cons pe_int (pa_cons (pv 2) (pa_cons pe_int (pa_cons (pe_op op_add (pv 2) pe_int) (pa_cons (pe_op op_pow pe_int pe_int) pa_nil)))))) pa_nil))) pa_nil))) pa_nil))))))
      (pss_one (ps_ret (pe_callTy call_tuple_of (by rfl) T.b_tuple (by decide +kernel) (pa_cons (pv 3) pa_nil)))))), ?_⟩
    refine ⟨Nat.zero_le _, fun r hr' => ⟨_, _, rfl, ?_⟩⟩
    have rp := W.np hr'
    have rl := W.nl hr'
    have e1 := W.tmp (o := .lst []) hr'
    have gr0 : G r = none := W.same.free hr'
    dsimp only [gName, List.set]
    refine ⟨_, rfl, (many : Int), rfl, by omega, by omega, for_range (lo := 0) (n := many) (fun i σ H3 => ∃ (at_ : Int) (o : Option V) (G3 : Hp) (vs : List V) (ds : List PyData), σ = [some (.ref p), some (.int (many : Int)), some (.int at_), some (.ref r), o] ∧ 0 ≤ at_ ∧ at_ ≤ (i : Int) * (B60 + 1) ∧
        Wd p l G3 H3 ∧ Same G G3 ∧ G3 r = none ∧ H3 r = some (.lst vs) ∧ DaAll K G3 vs ds ∧ ds.length = i ∧ (∀ d ∈ ds, ∃ k n : Int, d = .tuple [.int k, .int n] ∧ 1 ≤ k ∧ k ≤ at_ ∧ 0 ≤ n ∧ n ≤ 302 * B60) ∧ (ds.Pairwise fun p d => leD (firstD d) (firstD p) = false) ∧
        (∀ b o, b ≠ p → b ≠ l → b ≠ r → H b = some o → H3 b = some o) ∧ (∀ b o, H b = some o → G b = none → G3 b = none))
      ⟨0, none, G, [], [], rfl, by decide, by simp, e1.w, Same.refl _, gr0, upd_same, .nil, rfl, fun x m => absurd m List.not_mem_nil, .nil, fun b o n1 n2 n3 q => by rw [upd_ne n3]; exact q, fun b o _ g => g⟩ ?_ ?_⟩
    · rintro i σ H3 hi ⟨at_, o, G3, vs, ds, rfl, a0, a1, w3, s3, gr, hr3, da3, l3, f3, pw3, k3, n3⟩
      dsimp only [gName, List.set]
      refine ⟨_, rfl, _, _, rfl, rfl, ?_⟩
      refine td_pick (K := K) (p := p) (l := l) (G := G3) (ψ := IntD B60) (td_lstF (tds_consF td_intF (tds_consF td_intF (tds_consF td_intF (tds_consF td_intF (tds_consF td_powF (tds_consF td_powF tds_nilF))))))) rfl G3 H3 _ w3 (Same.refl G3) fun v d G4 H4 e4 da4 f4 => ?_
      obtain ⟨n, rfl, n0, n1⟩ := f4
      cases da4
      refine ⟨_, _, rfl, rfl, ?_⟩
      dsimp only [gName, List.set]
      have hi2 : (i : Int) ≤ 299 := by omega
      have hB : 1000 ≤ B60 := by decide
      have i1 : (i : Int) * (B60 + 1) ≤ 299 * (B60 + 1) := Int.mul_le_mul_of_nonneg_right hi2 (by omega)
      have i2 : ((i + 1 : Nat) : Int) * (B60 + 1) = (i : Int) * (B60 + 1) + (B60 + 1) := by
        rw [Int.natCast_add, Int.add_mul]
        exact congrArg _ (Int.one_mul _)
      have b0 : 1 ≤ at_ + 1 + n := by omega
      have b1 : at_ + 1 + n ≤ ((i + 1 : Nat) : Int) * (B60 + 1) := by omega
      have b2 : at_ + 1 + n ≤ 301 * B60 := by omega
      have hr4 := e4.keep _ _ rp rl hr3
      have gr4 := e4.new _ _ hr3 gr
      refine ⟨_, rfl, .inl ⟨rfl, _, SqL.of hr4⟩, ?_⟩
      refine TD.app (K := K) (p := p) (l := l) (G := G4) (φ := fun e => ∃ m : Int, e = .tuple [.int (at_ + 1 + n), .int m] ∧ 0 ≤ m ∧ m ≤ 302 * B60) ?h e4.w (fun u e G5 H5 e5 da5 f5 => ?_)
      case h =>
        refine TD.imp (td_tupP (tds_consP (td_var (φ := fun d => d = .int (at_ + 1 + n)) rfl (.int _) rfl) (tds_consP (td_pick (ψ := IntD (302 * B60)) (td_lstF (tds_consF td_intF (tds_consF (td_varI rfl (by omega) (by omega)) (tds_consF td_intF (tds_consF (td_addI rfl (by omega) (by omega)) (tds_consF td_powF tds_nilF)))))) rfl) tds_nilP)) ?cc) ?dd
        case cc =>
          rintro ds ⟨d, r, rfl, _, d2, r2, rfl, _, rfl⟩
          show 2 ≤ sizeLine
          decide
        case dd =>
          rintro d ⟨ds, rfl, d, r, rfl, rfl, d2, r2, rfl, ⟨v, rfl, v0, v1⟩, rfl⟩
          exact ⟨v, rfl, v0, v1⟩
      obtain ⟨m, rfl, m0, m1⟩ := f5
      have hr5 := e5.keep _ _ rp rl hr4
      have gr5 := e5.new _ _ hr4 gr4
      refine ⟨r, vs, _, rfl, rfl, hr5, by rw [da3.length, l3]; exact small1000 (by omega), ?_⟩
      refine ⟨_, _, G5, vs ++ [u], ds ++ [.tuple [.int (at_ + 1 + n), .int m]], rfl, by omega, b1, e5.w.own rp rl gr5, s3.trans (e4.sub.trans e5.sub), gr5, upd_same, (da3.mono (e4.sub.trans e5.sub)).append (.cons da5 .nil),
        by rw [List.length_append, l3]; rfl, fun d md => ?_, ?_, fun b o n1 n2 n4 q => ?_, fun b o q g => ?_⟩
      · rcases List.mem_append.mp md with md | md
        · obtain ⟨k, n, e, h1, h2, h3, h4⟩ := f3 d md
          exact ⟨k, n, e, h1, by omega, h3, h4⟩
        · rw [List.mem_singleton.mp md]
          exact ⟨_, m, rfl, b0, Int.le_refl _, m0, m1⟩
      · refine List.pairwise_append.mpr ⟨pw3, List.pairwise_singleton _ _, fun a ha b hb => ?_⟩
        obtain ⟨k, n2, rfl, h1, h2, _⟩ := f3 a ha
        rw [List.mem_singleton.mp hb]
        exact decide_eq_false (by omega)
      · rw [upd_ne n4]
        exact e5.keep _ _ n1 n2 (e4.keep _ _ n1 n2 (k3 b o n1 n2 n4 q))
      · have g3 := n3 b o q g
        by_cases c1 : b = p
        · subst c1
          exact e5.w.gp
        · by_cases c2 : b = l
          · subst c2
            exact e5.w.gl
          · have q3 := k3 b o c1 c2 (ne_of_none q hr') q
            exact e5.new b o (e4.keep _ _ c1 c2 q3) (e4.new b o q3 g3)
    · rintro σ H3 ⟨at_, o, G3, vs, ds, rfl, a0, a1, w3, s3, gr, hr3, da3, l3, f3, pw3, k3, n3⟩
      obtain ⟨w4, s4⟩ := w3.hold rp rl gr hr3
      have E3 : Ext p l G H (upd G3 r (.lst vs)) H3 := ⟨w4, s3.trans s4, fun b o n1 n2 q => k3 b o n1 n2 (ne_of_none q hr') q, fun b o q g => by
        rw [upd_ne (ne_of_none q hr')]
        exact n3 b o q g⟩
      refine ⟨_, rfl, r, vs, rfl, .inl ⟨SqL.of hr3, fun t ht => ?_⟩⟩
      have e4 := w4.put (o := .tup vs) ht
      refine kk _ _ _ _ (E3.trans W e4) (.tup (SqT.of upd_same) (da3.mono (s4.trans e4.sub))) ⟨ds, rfl, by omega, fun d md => ?_, pw3⟩
      obtain ⟨k, n, e, h1, h2, h3, h4⟩ := f3 d md
      have hm2 : (many : Int) ≤ 300 := by omega
      have hB : 1000 ≤ B60 := by decide
      have i1 : (many : Int) * (B60 + 1) ≤ 300 * (B60 + 1) := Int.mul_le_mul_of_nonneg_right hm2 (by omega)
      have k2 : k ≤ 301 * B60 := by omega
      exact ⟨.int k, n, e, by unfold KeyF; rw [if_neg Bool.false_ne_true]; exact ⟨k, rfl, h1, small_log (by omega) (by omega)⟩, h3, small_log h3 (by omega)⟩
end
end L2.Hx

/-! Stores and heaps: one with something turned. -/
namespace L2.Hx
open PySem PySem.Spec PyProof.Rows
/-- small, and, if it is a tuple, of few small items -/
def OnceD (d : PyData) : Prop := Okd 4 800000 d ∧ (isTup d = true → Tp 3 20000 36 d)
theorem OnceD.tp {d : PyData} (h : Tp 3 20000 36 d) : OnceD d := ⟨h.okd, fun _ => h⟩
theorem DaAll.rev {K : PySem.W.Frag} {G : Hp} : ∀ {vs : List V} {ds : List PyData}, DaAll K G vs ds → DaAll K G vs.reverse ds.reverse
  | [], [], _ => .nil
  | v :: vs, d :: ds, .cons h t => by
    rw [List.reverse_cons, List.reverse_cons]
    exact (DaAll.rev t).append (.cons h .nil)
section
variable {K : PySem.W.Frag} {p l : Addr} {σ : St} {G : Hp} {t ta : TE} {tr : TA} {φ : PyData → Prop} {k n m : Nat}
theorem td_ixT {i j : Nat} {r : Int} {v : V} {ds : List PyData} {φ : PyData → Prop} (hv : σ[i]? = some (some v)) (hj : σ[j]? = some (some (.int r))) (da : Da K G v (.tuple ds)) (r0 : 0 ≤ r) (r1 : r < ds.length) (hφ : ∀ x ∈ ds, φ x) :
    TD K p l σ G (tOp (rIxT K) (tVar i) (tVar j)) φ := fun G1 H Q W s kk => by
  obtain ⟨a, xs, rfl, t1, a1⟩ := da.tupI
  have hl := a1.length
  obtain ⟨x, hx, mx⟩ := atI_nat2 (xs := xs) r0 (by omega)
  obtain ⟨d, md, dd⟩ := a1.mem mx
  exact ⟨_, hv, _, hj, a, xs, r, x, rfl, rfl, sameT (s.trans W.same) t1, hx, kk x d _ _ (Ext.refl W) (dd.mono s) (hφ d md)⟩
theorem td_onceT (h : TD K p l σ G t (Tp k n m)) (hk : k ≤ 3 := by decide) (hn : n ≤ 20000 := by decide) (hm : m ≤ 36 := by decide) : TD K p l σ G t OnceD := h.imp fun d f => .tp (f.mono hk hn hm)
theorem td_strO {x : Str} (h : okB (.str x) = true := by decide +kernel) (hn : siz (.str x) ≤ 800000 := by decide +kernel) : TD K p l σ G (tC (.str x)) OnceD := .flat (fun _ => .str x) ⟨⟨h, Nat.zero_le _, hn⟩, fun q => nomatch q⟩
theorem td_nonO : TD K p l σ G (tC .non) OnceD := .flat (fun _ => .non) ⟨⟨rfl, Nat.zero_le _, by show 5 ≤ 800000; decide⟩, fun q => nomatch q⟩
theorem td_lst0O : TD K p l σ G (tLst tNil) OnceD := fun G1 H Q W s k => ⟨Nat.zero_le _, fun a ha => k _ _ _ _ (W.put ha) (.lst upd_same .nil) ⟨⟨rfl, by simp [PyData.depth, PyData.depthAll], by show 3 ≤ 800000; decide⟩, fun q => nomatch q⟩⟩
theorem td_dict0O : TD K p l σ G tDNewK OnceD := fun G1 H Q W s k => fun a ha => k _ _ _ _ (W.put ha) (Da.dct (kvs := []) upd_same .nil) ⟨⟨rfl, by simp [PyData.depth, PyData.depthKv], by show 2 ≤ 800000; decide⟩, fun q => nomatch q⟩
theorem td_listO (ha : TD K p l σ G ta (Tp 3 20000 12)) :
    TD K p l σ G (tCB (fun xs H Q => ∃ p ys, xs = [.ref p] ∧ (SqL K H p ys ∨ SqT K H p ys) ∧ ∀ l, H l = none → Q (.ref l) (upd H l (.lst ys))) (tCons ta tNil)) OnceD := fun G1 H Q W s k =>
  ha G1 H _ W s fun v d G2 H2 e da f => by
    obtain ⟨a, xs, ds, rfl, rfl, t1, a1, l1, o1⟩ := da.tpI f
    refine ⟨a, xs, rfl, .inr (sameT e.w.same t1), fun q hq => ?_⟩
    have e4 := e.w.put (o := .lst xs) hq
    exact k _ _ _ _ (e.trans W e4) (.lst upd_same (a1.mono e4.sub)) ⟨Okd.list (k := 3) (n := 20000) (m := 12) o1 l1 (by decide), fun q => nomatch q⟩
/-- t[::-1] -/
theorem td_rev (ha : TD K p l σ G ta (Tp k n m)) : TD K p l σ G (tRevT K ta) (Tp k n m) := fun G1 H Q W s kk =>
  ha G1 H _ W s fun v d G2 H2 e da f => by
    obtain ⟨a, xs, ds, rfl, rfl, t1, a1, l1, o1⟩ := da.tpI f
    refine ⟨a, xs, rfl, sameT e.w.same t1, fun q hq => ?_⟩
    have e4 := e.w.put (o := .tup xs.reverse) hq
    exact kk _ _ _ _ (e.trans W e4) (.tup (SqT.of upd_same) (a1.rev.mono e4.sub)) ⟨_, rfl, by rw [List.length_reverse]; exact l1, fun x mx => o1 x (List.mem_reverse.mp mx)⟩
/-- an item with something turned -/
theorem td_item {i j : Nat} {b : Bool} (hd : σ[i]? = some (some (.ref p))) (h : TD K p l σ G ta (fun d => ∃ x y, d = .tuple [x, y] ∧ Okd 0 2000 x ∧ Okd 0 2000 y)) (hb : σ[j]? = some (some (.bl b))) :
    TD K p l σ G (tCall (spItem K) [] E0 (tCons (tVar i) (tCons ta (tCons (tVar j) tNil)))) (Okd 3 20000) := fun G1 H Q W s kk =>
  ⟨_, hd, h G1 H _ W s fun v d G2 H2 e da f => by
    obtain ⟨x, y, rfl, ox, oy⟩ := f
    exact ⟨_, hb, p, l, G2, v, x, y, b, rfl, e.w, da, ox, oy, fun u z G3 H3 e3 dz fz => kk u z G3 H3 (e.trans W e3) dz fz⟩⟩
theorem tp_neg {i : Int} : TPt σ (tPart (tUn (rU fun i => .int (-i)) (tC (.int i)))) := fun H Q h => ⟨i, rfl, -i, rfl, h _⟩
end
/-- a store or heap with something turned -/
def spTurned (K : PySem.W.Frag) : Sp := fun vs H Q _ => ∃ (p l : Addr) (G : Hp) (v : V) (d : PyData) (b : Bool), vs = [.ref p, v, .bl b] ∧ Wd p l G H ∧ Da K G v d ∧ FlatD 12 d ∧ ∀ u e G2 H2, Ext p l G H G2 H2 → Da K G2 u e → OnceD e → Q u H2
section
variable {P : Program} {w : World} {K : PySem.W.Frag} {mg : Str → Option Value} {base : Heap}
theorem D_l_turned (T : Txt K mg) : Df P w K mg base 4 "_law_turned" ["deck", "value", "is_store"] (spTurned K) := by
  have D_l_draw := D_draw (P := P) (w := w) (base := base) T
  have D_l_pick := D_pick (P := P) (w := w) (base := base) T
  have D_l_odd_item := D_l_odd_item (P := P) (w := w) (base := base) T
  obtain ⟨f, fd, S⟩ := T.d_l_turned
  refine Df.mk' (k := 3) S sc_l_turned (fun vs H Q E h => ?_) (fun cdv A outer s H vs Q E hgd hr h => ?_)
  · obtain ⟨p, l, G, v, d, b, rfl, _⟩ := h
    rfl
  · obtain ⟨p, l, G, v, d, b, rfl, W, hd, fl, kk⟩ := h
    have ft := fl.tp
    obtain ⟨ds, rfl, l12, it⟩ := fl
    obtain ⟨a, xs, rfl, aT, aA⟩ := hd.tupI
    have hl := aA.length
    refine ⟨_, (pss_cons (ps_if (pt_cmpR (op_eqNil hr.units) (pv 1) (pe_tup pa_nil) (nomark _)) (pss_one (ps_ret (pe_d D_l_pick hgd hr (pa_cons (pv 0) (pa_cons (pe_lst (pa_cons (pe_lst pa_nil) (pa_cons pe_non (pa_cons pe_dnewK (pa_cons (pe_tup (pa_cons (pe_tup pa_nil) pa_nil)) (pa_cons (pe_tup (pa_cons pe_int pa_nil)) (pa_cons pe_str (pa_cons (pe_tup (pa_cons pe_str pa_nil)) (pa_cons (pe_tup (pa_cons (pe_tup (pa_cons pe_str (pa_cons pe_int pa_nil))) pa_nil)) (pa_cons (pe_tup (pa_cons (pe_tup (pa_cons pe_int (pa_cons pe_int pa_nil))) pa_nil)) pa_nil)))))))))) pa_nil))))) pss_nil)
      (pss_cons (ps_par (i := 3) (j := 4) (by rfl) sc_l_turned.nd rfl rfl (by decide) rfl rfl (pa_cons (pe_d D_l_draw hgd hr (pa_cons (pv 0) (pa_cons (pe_callB call_len_seq (by rfl) T.b_len (by decide +kernel) (pa_cons (pv 1) pa_nil)) pa_nil))) (pa_cons (pe_d D_l_draw hgd hr (pa_cons (pv 0) (pa_cons pe_int pa_nil))) pa_nil)) (by rfl))
      (pss_cons (ps_if (pt_cmpR op_lt (pv 4) pe_int (nomark _)) (pss_one (ps_ret (pe_op op_catA (pe_op op_catA (pe_slice sl_tupA (pv 1) po_none (po_some (pv 3))) (pe_tup (pa_cons (pe_d D_l_odd_item hgd hr (pa_cons (pv 0) (pa_cons (pe_ix ix_tup (pv 1) (pv 3) (fun _ _ => rfl)) (pa_cons (pv 2) pa_nil)))) pa_nil))) (pe_slice sl_tupA (pv 1) (po_some (pe_op op_add (pv 3) pe_int)) po_none)))) pss_nil)
      (pss_cons (ps_set (i := 5) sc_l_turned.nd rfl (.inl rfl) (pe_op op_catA (pe_op op_catA (pe_slice sl_tupA (pv 1) po_none (po_some (pv 3))) (pe_slice sl_tupA (pv 1) (po_some (pv 3)) (po_some (pe_op op_add (pv 3) pe_int)))) (pe_slice sl_tupA (pv 1) (po_some (pv 3)) po_none)))
      (pss_one (ps_ret (pe_d D_l_pick hgd hr (pa_cons (pv 0) (pa_cons (pe_lst (pa_cons (pe_callTy call_list_of (by rfl) T.b_list (by decide +kernel) (pa_cons (pv 1) pa_nil)) (pa_cons (pe_revT (pv 1)) (pa_cons (pe_op op_catA (pv 1) (pe_slice sl_tupA (pv 1) (po_some (pe_un un_neg pe_int)) po_none)) (pa_cons (pv 5) (pa_cons (pe_op op_repT (pv 1) pe_int) pa_nil)))))) pa_nil))))))))), ?_⟩
    refine ⟨_, rfl, Nat.zero_le _, fun t ht => ⟨a, t, xs, rfl, rfl, sameT (W.same.trans (sameAdd ht)) aT, SqT.of upd_same, _, rfl, ?_⟩⟩
    have e1 := W.tmp (o := .tup []) ht
    generalize upd H t (.tup []) = H1 at e1 ⊢
    refine iteB (fun hn => ?_) (fun hn => ?_)
    · refine TD.ret (K := K) (p := p) (l := l) (G := G) (φ := OnceD) ?h1 e1.w (fun u e G2 H2 e2 da f => kk u e G2 H2 (e1.trans W e2) da f)
      case h1 =>
        exact td_pick (td_lstF (tds_consF td_lst0O (tds_consF td_nonO (tds_consF td_dict0O (tds_consF (td_onceT (k := 1) (n := 3) (td_tup (tds_cons td_tup0O tds_nil)))
          (tds_consF (td_onceT (k := 0) (n := 2000) (td_tup (tds_cons td_int tds_nil))) (tds_consF td_strO (tds_consF (td_onceT (k := 0) (n := 2000) (td_tup (tds_cons td_str tds_nil)))
          (tds_consF (td_onceT (k := 1) (n := 5000) (td_tup (tds_cons (td_tupO (k := 0) (n := 2000) (tds_cons td_str (tds_cons td_int tds_nil))) tds_nil)))
          (tds_consF (td_onceT (k := 1) (n := 5000) (td_tup (tds_cons (td_tupO (k := 0) (n := 2000) (tds_cons td_int (tds_cons td_int tds_nil))) tds_nil))) tds_nilF)))))))))) rfl
    · have pos : 0 < xs.length := by
        cases xs with
        | nil => cases hn
        | cons x xs => exact Nat.succ_pos _
      refine ⟨_, rfl, _, rfl, a, xs, rfl, .inr (sameT e1.w.same aT), p, l, G, _, rfl, by omega, by omega, e1.w, fun r H2 r0 r1 e2 => ?_⟩
      refine ⟨_, rfl, p, l, G, 6, rfl, by decide, by decide, e2.w, fun z H3 z0 z1 e3 => ⟨_, _, rfl, ?_⟩⟩
      have E3 := (e1.trans W e2).trans W e3
      dsimp only [gName, List.set]
      have ft3 : Tp 3 20000 12 (.tuple ds) := ft.mono
      refine ⟨_, rfl, _, _, rfl, rfl, _, rfl, ite2 (fun h3 => ?_) (fun h3 => ?_)⟩
      · refine TD.ret (K := K) (p := p) (l := l) (G := G) (φ := OnceD) ?h2 E3.w (fun u e G4 H4 e4 da f => kk u e G4 H4 (E3.trans W e4) da f)
        case h2 =>
          refine td_onceT (k := 3) (n := 20000) (m := 12 + 1 + 12) (td_catA (td_catA (td_sl (td_var rfl hd ft3) tp_none (tp_var rfl)) (td_tup (tds_cons (td_item rfl (td_ixT rfl rfl hd r0 (by omega) it) rfl) tds_nil))) (td_sl (td_var rfl hd ft3) (tp_add rfl) tp_none))
      · dsimp only [tNext]
        refine TD.asg (K := K) (p := p) (l := l) (G := G) (φ := Tp 3 20000 (12 + 12 + 12)) ?h3 E3.w (fun u e G4 H4 e4 da f => ?k3)
        case h3 => exact td_catA (td_catA (td_sl (td_var rfl hd ft3) tp_none (tp_var rfl)) (td_sl (td_var rfl hd ft3) (tp_var rfl) (tp_add rfl))) (td_sl (td_var rfl hd ft3) (tp_var rfl) tp_none)
        dsimp only [gName, List.set]
        have hd4 := hd.mono e4.sub
        refine TD.ret (K := K) (p := p) (l := l) (G := G4) (φ := OnceD) ?h4 e4.w (fun u e G5 H5 e5 da f => kk u e G5 H5 ((E3.trans W e4).trans W e5) da f)
        case h4 =>
          exact td_pick (td_lstF (tds_consF (td_listO (td_var rfl hd4 ft3)) (tds_consF (td_onceT (td_rev (td_var rfl hd4 ft3))) (tds_consF (td_onceT (m := 12 + 12) (td_catA (td_var rfl hd4 ft3) (td_sl (td_var rfl hd4 ft3) tp_neg tp_none)))
            (tds_consF (td_onceT (td_var rfl da f)) (tds_consF (td_onceT (k := 3) (n := 20000) (m := 36) (td_repG (k := 3) (n := 20000) (m := 12) (td_var rfl hd4 ⟨ds, rfl, by omega, l12, fun x mx => by obtain ⟨_, e, _, q⟩ := ft3; cases e; exact q x mx⟩))) tds_nilF)))))) rfl
end
end L2.Hx

/-! Stores and heaps: the law. -/
namespace L2.Hx
open PySem PySem.Spec PyProof.Rows
def spLaw (K : PySem.W.Frag) : Sp := fun vs H Q _ => ∃ (a : Addr) (ns : List Int), vs = [.ref a] ∧ SqL K H a (ns.map V.int) ∧ ns.length ≤ 63 ∧ ∀ H', Q (.bl true) H'
theorem Da.nonI {K : PySem.W.Frag} {G : Hp} {v : V} (h : Da K G v .none) : v = .non := by
  cases h
  rfl
theorem GoodD.mono {b : Bool} {m n : Nat} {e : PyData} (h : GoodD b m e) (hm : m ≤ n) : GoodD b n e := by
  obtain ⟨ds, e, l, r⟩ := h
  exact ⟨ds, e, Nat.le_trans l hm, r⟩
section
variable {K : PySem.W.Frag} {p l : Addr} {σ : St} {G : Hp}
theorem td_odd {i : Nat} (hd : σ[i]? = some (some (.ref p))) : TD K p l σ G (tCall (spOdd K 3) [] E0 (tCons (tVar i) (tCons (tC (.int 3)) tNil))) (Okd 20 16000000) := fun G1 H Q W s kk =>
  ⟨_, hd, p, l, G1, rfl, W, fun u e G2 H2 x da f => kk u e G2 H2 x da (f.mono (by decide) (by decide))⟩
/-- is_right(e, b, c) -/
theorem right_run {ta tb tc : TE} {H : Hp} {Q : VK} (ha : TD K p l σ G ta (Okd 20 16000000)) (hb : ∀ (H : Hp) (Q : VK), (∀ b, Q (.bl b) H) → tb σ H Q) (hc : ∀ (H : Hp) (Q : VK), (∀ b, Q (.bl b) H) → tc σ H Q) (W : Wd p l G H) (k : ∀ G2 H2, Ext p l G H G2 H2 → Q (.bl true) H2) :
    tCall (spRight K) [] E0 (tCons ta (tCons tb (tCons tc tNil))) σ H Q :=
  ha G H _ W (Same.refl G) fun v d G2 H2 e da f => hb H2 _ fun b => hc H2 _ fun c => ⟨v, d, b, c, rfl, da.mono e.w.same, f, fun H3 q3 => k G2 H3 (e.trans W (e.w.still q3))⟩
theorem right_bad {ta tb tc : TE} {H : Hp} {D : Ends} (ha : TD K p l σ G ta (Okd 20 16000000)) (hb : ∀ (H : Hp) (Q : VK), (∀ b, Q (.bl b) H) → tb σ H Q) (hc : ∀ (H : Hp) (Q : VK), (∀ b, Q (.bl b) H) → tc σ H Q) (W : Wd p l G H) (k : ∀ G2 H2, Ext p l G H G2 H2 → D.nx σ H2) :
    tIfS (tNot (tB (tCall (spRight K) [] E0 (tCons ta (tCons tb (tCons tc tNil)))))) (tRet (tC (.bl false))) tNext D σ H :=
  right_run ha hb hc W fun G2 H2 e => ⟨true, rfl, k G2 H2 e⟩
/-- one of both is not right -/
theorem right_or {ta tb tc ta2 tb2 tc2 : TE} {H : Hp} {D : Ends} (ha : TD K p l σ G ta (Okd 20 16000000)) (hb : ∀ (H : Hp) (Q : VK), (∀ b, Q (.bl b) H) → tb σ H Q) (hc : ∀ (H : Hp) (Q : VK), (∀ b, Q (.bl b) H) → tc σ H Q)
    (ha2 : TD K p l σ G ta2 (Okd 20 16000000)) (hb2 : ∀ (H : Hp) (Q : VK), (∀ b, Q (.bl b) H) → tb2 σ H Q) (hc2 : ∀ (H : Hp) (Q : VK), (∀ b, Q (.bl b) H) → tc2 σ H Q) (W : Wd p l G H) (k : ∀ G2 H2, Ext p l G H G2 H2 → D.nx σ H2) :
    tIfS (tOr (tNot (tB (tCall (spRight K) [] E0 (tCons ta (tCons tb (tCons tc tNil)))))) (tNot (tB (tCall (spRight K) [] E0 (tCons ta2 (tCons tb2 (tCons tc2 tNil))))))) (tRet (tC (.bl false))) tNext D σ H :=
  right_run ha hb hc W fun G2 H2 e => ⟨true, rfl, ha2 G2 H2 _ e.w e.sub fun v d G3 H3 e3 da f => hb2 H3 _ fun b => hc2 H3 _ fun c => ⟨v, d, b, c, rfl, da.mono e3.w.same, f, fun H4 q4 => ⟨true, rfl, k G3 H4 ((e.trans W e3).trans W (e3.w.still q4))⟩⟩⟩
end
theorem OnceD.okd {d : PyData} (h : OnceD d) : Okd 20 16000000 d := h.1.mono
theorem log_of {n : Int} {k : Nat} (h : n.natAbs < 2 ^ k) (h0 : 0 < k := by decide) (hk : k < 1920 := by decide) : n.natAbs.log2 < 1920 := Nat.lt_trans (PySem.Flt.log2_lt_of h0 h) hk
theorem pow60_small : ((10 : Int) ^ (60 : Int).toNat).natAbs < 2 ^ 200 := by decide +kernel
theorem pow30_small : ((10 : Int) ^ (30 : Int).toNat).natAbs < 2 ^ 100 := by decide +kernel
theorem mul_small {i j : Int} {a b : Nat} (hi : i.natAbs < 2 ^ a) (hj : j.natAbs < 2 ^ b) : (i * j).natAbs < 2 ^ (a + b) := by
  rw [Int.natAbs_mul, Nat.pow_add]
  exact Nat.mul_lt_mul'' hi hj
section
variable {P : Program} {w : World} {K : PySem.W.Frag} {mg : Str → Option Value} {base : Heap}
theorem D_law (T : Txt K mg) : DfS P w K mg base 10 "law" s_law ["script"] (spLaw K) := by
  have DK_store_error := (DS_store_error (P := P) (w := w) (base := base) T).kw (ks := ["value"]) (g := fun us => us) fun _ _ _ _ _ _ ws hl => match ws, hl with | [_], _ => rfl
  have DK_heap_error := (DS_heap_error (P := P) (w := w) (base := base) T).kw (ks := ["value"]) (g := fun us => us) fun _ _ _ _ _ _ ws hl => match ws, hl with | [_], _ => rfl
  have D_l_is_right := D_l_is_right (P := P) (w := w) (base := base) T (D_store_error T) (D_heap_error T) DK_store_error DK_heap_error
  have D_l_deck := D_deck (P := P) (w := w) (base := base) T
  have D_l_draw := D_draw (P := P) (w := w) (base := base) T
  have D_l_pick := D_pick (P := P) (w := w) (base := base) T
  have D_l_store := D_l_store (P := P) (w := w) (base := base) T
  have D_l_heap := D_l_heap (P := P) (w := w) (base := base) T
  have D_l_due := D_l_due (P := P) (w := w) (base := base) T
  have D_l_turned := D_l_turned (P := P) (w := w) (base := base) T
  have D_l_odd_value := D_odd (P := P) (w := w) (base := base) T 3
  obtain ⟨f, fd, S⟩ := T.d_law
  refine DfS.mk' (k := 9) S sc_law (fun vs H Q E h => ?_) (fun cdv A outer s H vs Q E hgd hr h => ?_)
  · obtain ⟨a, ns, rfl, _⟩ := h
    rfl
  · obtain ⟨a, ns, rfl, hS, hz, k⟩ := h
    refine ⟨_, (pss_cons (ps_set (i := 1) sc_law.nd rfl (.inl rfl) (pe_d D_l_deck hgd hr (pa_cons (pv 0) pa_nil)))
      (pss_cons (ps_for PassesOwn.never rfl (pi_range1 rfl T.b_range (pa_cons pe_int pa_nil)) (pg_name (i := 2) sc_law.nd rfl (.inl rfl))
      (pss_one (ps_for PassesOwn.never rfl (pi_tup (pe_tup (pa_cons pe_bl (pa_cons pe_bl pa_nil)))) (pg_name (i := 3) sc_law.nd rfl (.inl rfl))
      (pss_cons (ps_set (i := 4) sc_law.nd rfl (.inl rfl) (pe_ifExp (pt_val (pv 3)) (pe_d D_l_store hgd hr (pa_cons (pv 1) pa_nil)) (pe_d D_l_heap hgd hr (pa_cons (pv 1) (pa_cons (pe_d D_l_pick hgd hr (pa_cons (pv 1) (pa_cons (pe_lst (pa_cons pe_int (pa_cons pe_int (pa_cons pe_int (pa_cons pe_int (pa_cons pe_int (pa_cons pe_int pa_nil))))))) pa_nil))) pa_nil)))))
      (pss_cons (ps_if (PW.pt (pw_or (pt_cmpR op_notN (pe_d D_l_due hgd hr (pa_cons (pv 4) (pa_cons (pv 3) pa_nil))) pe_non (nomark _)) (pw_or1 (pt_not (pt_val (pe_d D_l_is_right hgd hr (pa_cons (pv 4) (pa_cons (pv 3) (pa_cons (pe_cmpR op_eq (pv 2) pe_int (nomark _)) pa_nil))))))))) (pss_one (ps_ret pe_bl)) pss_nil)
      (pss_cons (ps_for PassesOwn.never rfl (pi_range1 rfl T.b_range (pa_cons pe_int pa_nil)) (pg_name (i := 5) sc_law.nd rfl (.inl rfl))
      (pss_cons (ps_set (i := 6) sc_law.nd rfl (.inl rfl) (pe_d D_l_turned hgd hr (pa_cons (pv 1) (pa_cons (pv 4) (pa_cons (pv 3) pa_nil)))))
      (pss_cons (ps_if (pt_not (pt_val (pe_d D_l_is_right hgd hr (pa_cons (pv 6) (pa_cons (pv 3) (pa_cons (pe_cmpR op_eq (pv 5) pe_int (nomark _)) pa_nil)))))) (pss_one (ps_ret pe_bl)) pss_nil)
      (pss_one (ps_if (PW.pt (pw_and (pt_val (pe_callB call_isiD (by rfl) T.b_isinstance (by decide +kernel) (pa_cons (pv 6) (pa_cons (pe_bT (n := "tuple") T.b_tuple (by decide +kernel)) pa_nil)))) (pw_and1 (pt_not (pt_val (pe_d D_l_is_right hgd hr (pa_cons (pe_revT (pv 6)) (pa_cons (pv 3) (pa_cons pe_bl pa_nil))))))))) (pss_one (ps_ret pe_bl)) pss_nil)))))
      (pss_cons (ps_if (pt_not (pt_val (pe_d D_l_is_right hgd hr (pa_cons (pe_d D_l_odd_value hgd hr (pa_cons (pv 1) (pa_cons pe_int pa_nil))) (pa_cons (pv 3) (pa_cons pe_bl pa_nil)))))) (pss_one (ps_ret pe_bl)) pss_nil)
      (pss_one (ps_if (pt_not (pt_val (pe_d D_l_is_right hgd hr (pa_cons (pv 4) (pa_cons (pe_not (pv 3)) (pa_cons pe_bl pa_nil)))))) (pss_one (ps_ret pe_bl)) pss_nil)))))))))
      (pss_cons (ps_set (i := 7) sc_law.nd rfl (.inl rfl) pe_int)
      (pss_cons (ps_for PassesOwn.never rfl (pi_range1 rfl T.b_range (pa_cons pe_int pa_nil)) (pg_name (i := 2) sc_law.nd rfl (.inl rfl))
      (pss_one (ps_set (i := 7) sc_law.nd rfl (.inl rfl) (pe_op op_mulW (pv 7) (pe_op op_pow pe_int pe_int)))))
      (pss_cons (ps_set (i := 8) sc_law.nd rfl (.inl rfl) (pe_tup (pa_cons (pe_tup (pa_cons (pv 7) (pa_cons (pe_op op_mulW (pv 7) (pe_op op_pow pe_int pe_int)) pa_nil))) (pa_cons (pe_tup (pa_cons (pe_op op_add (pv 7) pe_int) (pa_cons pe_int pa_nil))) pa_nil))))
      (pss_cons (ps_set (i := 9) sc_law.nd rfl (.inl rfl) (pe_ifExp (pt_cmpR op_eq (pe_d D_l_draw hgd hr (pa_cons (pv 1) (pa_cons pe_int pa_nil))) pe_int (nomark _)) (pe_d D_l_heap hgd hr (pa_cons (pv 1) (pa_cons pe_int pa_nil))) (pe_tup pa_nil)))
      (pss_cons (ps_if (PW.pt (pw_or (pt_not (pt_val (pe_d D_l_is_right hgd hr (pa_cons (pv 8) (pa_cons pe_bl (pa_cons pe_bl pa_nil)))))) (pw_or1 (pt_not (pt_val (pe_d D_l_is_right hgd hr (pa_cons (pe_revT (pv 8)) (pa_cons pe_bl (pa_cons pe_bl pa_nil))))))))) (pss_one (ps_ret pe_bl)) pss_nil)
      (pss_one (ps_ret (pe_d D_l_is_right hgd hr (pa_cons (pv 9) (pa_cons pe_bl (pa_cons pe_bl pa_nil))))))))))))), ?_⟩
    refine ⟨_, rfl, a, ns, rfl, hS, hz, fun p l H1 W1 => ?_⟩
    dsimp only [gName]
    refine ⟨10, rfl, by decide, by decide, for_range (lo := 0) (n := 10) (fun i σ H2 => ∃ o2 o3 o4 o5 o6 o7 o8 o9, σ = [some (.ref a), some (.ref p), o2, o3, o4, o5, o6, o7, o8, o9] ∧ ∃ G2, Wd p l G2 H2 ∧ Same H G2)
      ⟨_, _, _, _, _, _, _, _, rfl, H, W1, Same.refl _⟩ ?_ ?_⟩
    · rintro i σ H2 hi ⟨o2, o3, o4, o5, o6, o7, o8, o9, rfl, G2, W2, s2⟩
      dsimp only [gName, List.set]
      refine ⟨by show 2 ≤ sizeLine; decide, fun t ht => ?_⟩
      have e0 := W2.put (o := .tup [V.bl true, .bl false]) ht
      have gt : (upd G2 t (.tup [V.bl true, .bl false])) t = some (.tup [V.bl true, .bl false]) := upd_same
      have s0 : Same H (upd G2 t (.tup [V.bl true, .bl false])) := s2.trans e0.sub
      have W0 := e0.w
      generalize upd G2 t (.tup [V.bl true, .bl false]) = G0 at gt s0 W0
      generalize upd H2 t (.tup [V.bl true, .bl false]) = H0 at W0 ⊢
      refine ⟨t, rfl, ⟨_, sameT W0.same (SqT.of gt)⟩, for_tup (K := K) (a := t) (xs := [V.bl true, .bl false]) (fun j σ H3 => ∃ o3 o4 o5 o6 o7 o8 o9, σ = [some (.ref a), some (.ref p), some (.int (0 + (i : Int))), o3, o4, o5, o6, o7, o8, o9] ∧ ∃ G3, Wd p l G3 H3 ∧ Same G0 G3)
        ⟨_, _, _, _, _, _, _, rfl, G0, W0, Same.refl _⟩ (fun j σ H3 _ ⟨_, _, _, _, _, _, _, _, G3, W3, s3⟩ => sameT (s3.trans W3.same) (SqT.of gt)) ?_ ?_⟩
      · rintro j x σ H3 hx ⟨o3, o4, o5, o6, o7, o8, o9, rfl, G3, W3, s3⟩
        obtain ⟨b, rfl⟩ : ∃ b, x = V.bl b := by
          rcases List.mem_cons.mp (List.mem_of_getElem? hx) with rfl | m
          · exact ⟨true, rfl⟩
          · exact ⟨false, List.mem_singleton.mp m⟩
        dsimp only [gName, List.set]
        refine' behindP (I := fun u H4 => ∃ G4 d, Ext p l G3 H3 G4 H4 ∧ Da K G4 u d ∧ GoodD b 12 d) (fun fin => ?_) ?_
        rotate_left 1
        · refine ⟨_, rfl, b, rfl, iteB (fun hb => ?_) (fun hb => ?_)⟩
          · refine ⟨_, rfl, p, l, G3, rfl, W3, fun u e G4 H4 x da f => fin u H4 ⟨G4, e, x, da, ?_⟩⟩
            rw [hb]
            exact f.mono (by decide)
          · refine ⟨_, rfl, ?_⟩
            refine td_pick (K := K) (p := p) (l := l) (G := G3) (ψ := IntD 12) (td_lstF (tds_consF td_intF (tds_consF td_intF (tds_consF td_intF (tds_consF td_intF (tds_consF td_intF (tds_consF td_intF tds_nilF))))))) rfl G3 H3 _ W3 (Same.refl G3) fun v d G4 H4 e4 da4 f4 => ?_
            obtain ⟨n, rfl, n0, n1⟩ := f4
            cases da4
            obtain ⟨N, rfl⟩ := Int.eq_ofNat_of_zero_le n0
            refine ⟨p, l, G4, N, rfl, by omega, e4.w, fun u e G5 H5 x da f => fin u H5 ⟨G5, e, e4.trans W3 x, da, ?_⟩⟩
            rw [hb]
            exact f.mono (by omega)
        · rintro v H4 ⟨G4, d, E4, da, good⟩
          dsimp only [gName, List.set]
          have W4 := E4.w
          have fl := good.flat
          have ok : Okd 20 16000000 d := (fl.tp.okd (N := 100000)).mono
          refine ⟨_, rfl, _, rfl, v, d, b, rfl, da.mono W4.same, ok.fit line16, fun u H5 q5 du => ?_⟩
          rw [good.due] at du
          cases du.nonI
          have e5 := W4.still q5
          refine ⟨rfl, false, by simp, ?_⟩
          refine right_run (td_var (φ := Okd 20 16000000) rfl da ok) (fun H Q hb => ⟨_, rfl, hb b⟩) (fun H Q hb => ⟨_, rfl, rfl, hb _⟩) e5.w (fun G6 H6 e6 => ⟨true, rfl, ?_⟩)
          dsimp only
          refine if_no rfl ?_
          have da6 := da.mono e6.sub
          have W6 := e6.w
          have s6 : Same G0 G6 := (s3.trans E4.sub).trans e6.sub
          clear e6 e5 E4 W4 q5 du s3 W3
          refine ⟨4, rfl, by decide, by decide, for_range (lo := 0) (n := 4) (fun i2 σ H7 => ∃ o5 o6, σ = [some (.ref a), some (.ref p), some (.int (0 + (i : Int))), some (.bl b), some v, o5, o6, o7, o8, o9] ∧ ∃ G7, Wd p l G7 H7 ∧ Same G6 G7)
            ⟨_, _, rfl, G6, W6, Same.refl _⟩ ?_ ?_⟩
          · rintro i2 σ H7 hi2 ⟨o5, o6, rfl, G7, W7, s7⟩
            dsimp only [gName, List.set]
            refine ⟨_, rfl, _, rfl, _, rfl, p, l, G7, v, d, b, rfl, W7, da6.mono s7, fl, fun u e G8 H8 e8 da8 once => ?_⟩
            dsimp only [gName, List.set]
            refine right_bad (G := G8) (td_var (φ := Okd 20 16000000) rfl da8 once.okd) (fun H Q hb => ⟨_, rfl, hb b⟩) (fun H Q hb => ⟨_, rfl, rfl, hb _⟩) e8.w (fun G9 H9 e9 => ?_)
            dsimp only
            have da9 := da8.mono e9.sub
            refine ⟨_, rfl, u, e, H9, Same.refl _, da9.mono e9.w.same, .inl ⟨rfl, _, rfl, ?_⟩⟩
            refine iteB (fun ht => ?_) (fun ht => ?_)
            · refine right_run (td_mono (k := 4) (n := 800000) ((td_rev (td_var rfl da9 (once.2 ht))).imp fun d f => f.okd)) (fun H Q hb => ⟨_, rfl, hb b⟩) (fun H Q hb => hb _) e9.w (fun G10 H10 e10 => ⟨true, rfl, ?_⟩)
              exact ⟨_, _, rfl, G10, e10.w, ((s7.trans e8.sub).trans e9.sub).trans e10.sub⟩
            · exact ⟨_, _, rfl, G9, e9.w, (s7.trans e8.sub).trans e9.sub⟩
          · rintro σ H7 ⟨o5, o6, rfl, G7, W7, s7⟩
            dsimp only
            refine right_bad (G := G7) (td_odd rfl) (fun H Q hb => ⟨_, rfl, hb b⟩) (fun H Q hb => hb _) W7 (fun G8 H8 e8 => ?_)
            dsimp only
            refine right_bad (G := G8) (td_var (φ := Okd 20 16000000) rfl (da6.mono (s7.trans e8.sub)) ok) (fun H Q hb => ⟨_, rfl, b, rfl, hb _⟩) (fun H Q hb => hb _) e8.w (fun G9 H9 e9 => ?_)
            exact ⟨_, _, _, _, _, _, _, rfl, G9, e9.w, ((s6.trans s7).trans e8.sub).trans e9.sub⟩
      · rintro σ H3 ⟨o3, o4, o5, o6, o7, o8, o9, rfl, G3, W3, s3⟩
        exact ⟨_, _, _, _, _, _, _, _, rfl, G3, W3, s0.trans s3⟩
    · rintro σ H2 ⟨o2, o3, o4, o5, o6, o7, o8, o9, rfl, G2, W2, s2⟩
      dsimp only [gName, List.set]
      refine ⟨6, rfl, by decide, by decide, for_range (lo := 0) (n := 6) (fun i σ H3 => ∃ o2 T, σ = [some (.ref a), some (.ref p), o2, o3, o4, o5, o6, some (.int T), o8, o9] ∧ H3 = H2 ∧ 0 < T ∧ T.natAbs < 2 ^ (1 + i * 200))
        ⟨_, 1, rfl, rfl, by decide, by decide⟩ ?_ ?_⟩
      · rintro i σ H3 hi ⟨o2, T, rfl, rfl, t0, t1⟩
        dsimp only [gName, List.set]
        refine ⟨_, rfl, 10, 60, rfl, rfl, ⟨by decide, by decide, by decide⟩, T, _, rfl, rfl, wide_mul t1 pow60_small (by omega) (by decide) (by omega), _, _, rfl, rfl, Int.mul_pos t0 (by decide), ?_⟩
        have q := mul_small t1 pow60_small
        rw [show 1 + (i + 1) * 200 = 1 + i * 200 + 200 by omega]
        exact q
      · rintro σ H3 ⟨o2, T, rfl, rfl, t0, t1⟩
        dsimp only [gName, List.set]
        have t1 : T.natAbs < 2 ^ 1201 := t1
        have oT : Okd 0 2000 (.int T) := ⟨decide_eq_true (log_of t1), Nat.zero_le _, by show 1921 ≤ 2000; decide⟩
        have oT1 : Okd 0 2000 (.int (T + 1)) := ⟨decide_eq_true (log_of (k := 1202) (by rw [Nat.pow_succ]; omega)), Nat.zero_le _, by show 1921 ≤ 2000; decide⟩
        have oT2 : Okd 0 2000 (.int (T * (10 : Int) ^ (30 : Int).toNat)) := ⟨decide_eq_true (log_of (k := 1301) (mul_small t1 pow30_small)), Nat.zero_le _, by show 1921 ≤ 2000; decide⟩
        refine TD.asg (K := K) (p := p) (l := l) (G := G2) (φ := Tp 1 5000 2) ?h1 W2 (fun v d G3 H4 e3 da f => ?k1)
        case h1 =>
          refine td_tup (tds_cons (td_tupO (k := 0) (n := 2000) (tds_cons (td_var rfl (.int T) oT) (tds_cons (fun G1 H Q W s kk => ?_) tds_nil)))
            (tds_cons (td_tupO (k := 0) (n := 2000) (tds_cons (fun G1 H Q W s kk => ?_) (tds_cons td_int tds_nil))) tds_nil))
          · exact ⟨_, rfl, 10, 30, rfl, rfl, ⟨by decide, by decide, by decide⟩, T, _, rfl, rfl, wide_mul t1 pow30_small (by decide) (by decide) (by decide), kk _ _ _ _ (Ext.refl W) (.int _) oT2⟩
          · exact ⟨_, rfl, _, _, rfl, rfl, kk _ _ _ _ (Ext.refl W) (.int _) oT1⟩
        dsimp only [gName, List.set]
        have W3 := e3.w
        refine' behindP (I := fun u H5 => ∃ G4 d, Ext p l G3 H4 G4 H5 ∧ Da K G4 u d ∧ Okd 20 16000000 d) (fun fin => ?_) ?_
        rotate_left 1
        · refine ⟨_, rfl, p, l, G3, 8, rfl, by decide, by decide, W3, fun z H5 z0 z1 e5 => ⟨rfl, _, rfl, iteB (fun _ => ?_) (fun _ => ?_)⟩⟩
          · refine ⟨_, rfl, p, l, G3, 300, rfl, Nat.le_refl _, e5.w, fun u e G6 H6 x da f => fin u H6 ⟨G6, e, e5.trans W3 x, da, ?_⟩⟩
            exact (f.flat.tp.okd (N := 1600000)).mono
          · refine ⟨Nat.zero_le _, fun q hq => ?_⟩
            have e6 := e5.w.put (o := .tup []) hq
            exact fin _ _ ⟨_, .tuple [], e5.trans W3 e6, .tup (SqT.of upd_same) .nil, ⟨rfl, by simp [PyData.depth, PyData.depthAll], by show 3 ≤ 16000000; decide⟩⟩
        · rintro u H5 ⟨G4, d2, E4, da4, o4⟩
          dsimp only [gName, List.set]
          have da' := da.mono E4.sub
          have okf : Okd 20 16000000 d := (f.okd (N := 20000)).mono
          refine right_or (G := G4) (td_var (φ := Okd 20 16000000) rfl da' okf) (fun H Q hb => hb _) (fun H Q hb => hb _) (td_mono (k := 2) (n := 20000) ((td_rev (td_var rfl da' f)).imp fun d f => f.okd)) (fun H Q hb => hb _) (fun H Q hb => hb _) E4.w (fun G6 H6 e6 => ?_)
          dsimp only
          exact right_run (td_var (φ := Okd 20 16000000) rfl (da4.mono e6.sub) o4) (fun H Q hb => hb _) (fun H Q hb => hb _) e6.w fun G7 H7 e7 => k _
end
end L2.Hx

/-! The end: the row from the promise of its def. -/
namespace L2.Hx
open PySem PySem.Spec PyProof.Rows
section
variable {P : Program} {w : World} {K : PySem.W.Frag} {mg mb : Str → Option Value} {k : Nat} {f a : Addr} {fd : FuncData} {x : Str} {sp : Sp} {t0 : Shared} {us0 : List Value} {ns : List Int}
/-- what stands ahead of the call of the def -/
structure Ahead (K : PySem.W.Frag) (mg mb : Str → Option Value) (t0 : Shared) (a : Addr) (us0 : List Value) (ns : List Int) : Prop where
  kin : K.In t0.heap
  nsG : t0.heap.Ns mainGlobals mg
  nsB : t0.heap.Ns builtinsNs mb
  bb : ∀ y : Str, y ≠ "__name__" → mb y = bootBuiltins y
  lim : t0.heap.NoLimit
  gens : t0.gens = #[]
  obj : t0.heap.get? a = some { cls := .type "list", data := .seq us0.toArray }
  are : IntsAre us0 ns
  len : ns.length ≤ sizeLine
/-- what stands behind it -/
abbrev Done (t0 : Shared) : Result → Shared → Prop := fun r z => r = .ok (.ret (.bool true)) ∧ OldK t0.heap z.heap ∧ z.os = t0.os ∧ AllBare z.gens
/-- from a heap in which nothing but the script may be tracked -/
theorem Ahead.from_ {H : Hp} (Z : Ahead K mg mb t0 a us0 ns) (room : Room k callerA) (F : ∀ base : Heap, K.In base → base.Ns mainGlobals mg → FnG P w K mg base CX0 k f fd [x] sp) (bind : ∀ (s : Shared) (u : Value), BindsTo s fd ⟨[u], []⟩ [(x, u)])
    (hO : Only H) (prom : sp [.ref a] H (fun v _ => v = .bl true) fun _ _ _ => False) (ok0 : HOk P w H t0.heap) (alone : ∀ b, H b ≠ none → b = a) (notK : H a ≠ none → K.lookup a = none) :
    codeAny (model P w) callerA (.call (.ref f) ⟨[.ref a], []⟩) (Done t0) t0 := by
  have free : ∀ {b : Addr} {o : Obj} {es : Array DictEntry} {n : Nat}, t0.heap.get? b = some o → o.data = .dict es n → H b = none := fun {b o es n} e d => by
    rcases hO b with q | ⟨o2, xs, q⟩
    · exact q
    · have ea := alone b (by rw [q]; exact Option.some_ne_none _)
      rw [ea, Z.obj] at e
      cases e
      cases d
  have ns1 : ∀ {b : Addr} {m : Str → Option Value}, t0.heap.Ns b m → (hidT t0.heap H).Ns b m := fun {b m} z => by
    obtain ⟨o, es, n, e, d, r⟩ := z
    exact ⟨o, es, n, hidT_get e (free e d), d, r⟩
  have kin1 : K.In (hidT t0.heap H) := fun b o e => by
    refine hidT_get (Z.kin b o e) ?_
    rcases hO b with q | ⟨o2, xs, q⟩
    · exact q
    · have nn : H b ≠ none := by
        rw [q]
        exact Option.some_ne_none _
      have ea := alone b nn
      rw [ea] at nn e
      rw [notK nn] at e
      cases e
  have lim1 : (hidT t0.heap H).NoLimit := by
    obtain ⟨m, z1, z2⟩ := Z.lim
    exact ⟨m, ns1 z1, z2⟩
  have env : Env0 P w K mg (hidT t0.heap H) callerA [] t0 H :=
    ⟨rfl, ⟨kin1, ns1 Z.nsG, ⟨mb, ns1 Z.nsB, Z.bb⟩, lim1⟩, fun b o e => of_hidT e, Nat.le_of_eq (hidT_size _ _), trivial, fun b z => absurd (show b ∈ ([] : List Addr) from z) List.not_mem_nil, ok0, .of_eq Z.gens⟩
  refine codeAny_mono ((F _ kin1 (ns1 Z.nsG)).go callerA [] t0 H ⟨[.ref a], []⟩ [.ref a] [.ref a] _ _ rfl room env (bind t0 (.ref a)) (.cons rfl .nil) prom) fun r z h => ?_
  match r, h with
  | .ok (.ret u), h =>
    obtain ⟨v, H1, e1, e2, e3, e4, e5, e6⟩ := h
    have ev : v = .bl true := e6
    rw [ev] at e5
    have eu : u = Value.bool true := e5
    rw [eu]
    refine ⟨rfl, OldK.of_keep fun b o e => ?_, e1, e2⟩
    rcases hO b with q | ⟨o2, xs, q⟩
    · exact e3.keep b o e q (fun m => absurd (show b ∈ ([] : List Addr) from m) List.not_mem_nil) (by simp)
    · have q1 := e3.frzs b o2 _ q
      have g0 := (ok0 b _ q).1
      have g1 := (e4 b _ q1).1
      rw [e] at g0
      cases g0
      exact g1
theorem Ahead.call (Z : Ahead K mg mb t0 a us0 ns) (room : Room k callerA) (F : ∀ base : Heap, K.In base → base.Ns mainGlobals mg → FnG P w K mg base CX0 k f fd [x] sp) (bind : ∀ (s : Shared) (u : Value), BindsTo s fd ⟨[u], []⟩ [(x, u)])
    (prom : ∀ H : Hp, SqL K H a (ns.map V.int) → sp [.ref a] H (fun v _ => v = .bl true) fun _ _ _ => False) : codeAny (model P w) callerA (.call (.ref f) ⟨[.ref a], []⟩) (Done t0) t0 := by
  have vals := vals_ints Z.are
  have lens := Z.are.length
  cases own : K.lookup a with
  | some o =>
    have eo := Z.kin a o own
    rw [Z.obj] at eo
    cases eo
    refine Z.from_ (H := fun _ => none) room F bind (fun _ => .inl rfl) (prom _ (.inr ⟨_, us0.toArray, _, own, rfl, rfl, rfl, ?_, vals⟩)) (fun b u q => nomatch q) (fun b q => absurd rfl q) (fun q => absurd rfl q)
    rw [List.size_toArray, lens]
    exact Z.len
  | none =>
    refine Z.from_ (H := fun b => if b = a then some (.frz { cls := .type "list", data := .seq us0.toArray } (.lst (ns.map V.int))) else none) room F bind (fun b => ?_) (prom _ (.inl (.inr ⟨_, if_pos rfl⟩))) (fun b u q => ?_) (fun b q => ?_) (fun _ => own)
    · by_cases e : b = a
      · exact .inr ⟨_, _, if_pos e⟩
      · exact .inl (if_neg e)
    · by_cases e : b = a
      · have q1 := (if_pos e).symm.trans q
        cases q1
        rw [e]
        exact ⟨Z.obj, by rw [List.length_map]; exact Z.len, us0, _, vals, Z.obj⟩
      · have q1 := (if_neg e).symm.trans q
        cases q1
    · by_cases e : b = a
      · exact e
      · exact absurd (if_neg e) q
end
/-- the row's walk -/
theorem walkG {l : PySem.W.OpenLaw} {n k : Nat} {q : Program} {loose : List Str} {XP : (Str → Option Value) → Heap → Prop} {YP : World → Heap → Prop} {d : DefRec} {K : Params → PySem.W.Frag} {sp : PySem.W.Frag → Sp} {x : Str}
    (hn : l.most = some n) (hz : n ≤ sizeLine) (nodef : d.params.defaults = []) (room : Room k callerA) (hY : ∀ (w : World) (h : Heap), YP w h → (K w.params).In h)
    (F : ∀ (w : World) (mg : Str → Option Value) (f : Addr) (h : Heap), (K w.params).In h → h.Ns mainGlobals mg → mg d.name = some (.ref f) →
      ∃ fd : FuncData, (∀ (s : Shared) (u : Value), BindsTo s fd ⟨[u], []⟩ [(x, u)]) ∧ ∀ base : Heap, FnG l.prog w (K w.params) mg base CX0 k f fd [x] (sp (K w.params)))
    (prom : ∀ (K : PySem.W.Frag) (H : Hp) (a : Addr) (ns : List Int), ns.length ≤ n → SqL K H a (ns.map V.int) → sp K [.ref a] H (fun v _ => v = .bl true) fun _ _ _ => False) :
    PySem.W.WalkO q loose XP YP l.row.toRowW d [] (fun f vs => PySem.call f vs) := by
  refine Att.attach_call hn nodef fun w s0 t0 mg mb f o pm cd doc a us0 ns G Y _ _ _ here obj are len gens => ?_
  have kin := hY w _ Y
  obtain ⟨fd, b, FF⟩ := F w mg f _ kin G.T.g here
  have Z : Ahead (K w.params) mg mb t0 a us0 ns := ⟨kin, G.T.g, G.T.b, G.T.builtins, G.T.nolimit, gens, obj, are, Nat.le_trans len hz⟩
  exact Z.call room (fun base _ _ => FF base) b fun H hS => prom _ H a ns len hS
/-- a def of the top, where it stands -/
theorem src_of {K : PySem.W.Frag} {mg : Str → Option Value} {h : Heap} {x : Str} {st : Stmt} {ps : List Str} {f : Addr} {oc kV doc pm cdv ct : Value} {od an : Option Addr} {osl : Array (Option Value)} (X : K.In h) (G : h.Ns mainGlobals mg)
    (e1 : PySem.W.nsIn K mainGlobals x = some (some (.ref f))) (e2 : K.lookup f = some ⟨oc, od, .func (PySem.W.fnOf x x (defArgs st) (defBody st) (defScope st) .none kV doc pm an cdv ct), osl⟩) (e3 : PySem.W.codeIn K cdv x = true) (e4 : PySem.W.keepIn K (.ref f) = true)
    (hb : ∀ (kV doc pm : Value) (an : Option Addr) (cdv ct : Value) (us : List Value), us.length = ps.length → bindArgs (PySem.W.fnOf x x (defArgs st) (defBody st) (defScope st) .none kV doc pm an cdv ct) ⟨us, []⟩ = pure (ps.zip us)) : ∃ f fd, Src K mg x st ps f fd :=
  ⟨f, _, fun_mk e2 e3 e4, PySem.W.mg_of X G e1, (fun_mk e2 e3 e4).binds hb⟩
/-- a tuple of texts of the top -/
theorem tup_of {K : PySem.W.Frag} {mg : Str → Option Value} {h : Heap} {x : Str} {a : Addr} {ws : List Str} {o : Obj} {its : Array Value} {n : Nat} (X : K.In h) (G : h.Ns mainGlobals mg) (e1 : PySem.W.nsIn K mainGlobals x = some (some (.ref a))) (e2 : K.lookup a = some o)
    (e3 : o.cls = .type "tuple" ∧ o.data = .seq its n ∧ its.size ≤ sizeLine ∧ Vals (ws.map V.str) its.toList) : ∃ a, mg x = some (.ref a) ∧ ∀ H, SqT K H a (ws.map V.str) :=
  ⟨a, PySem.W.mg_of X G e1, fun H => .inr ⟨o, its, n, e2, e3.1, e3.2.1, e3.2.2.1, e3.2.2.2⟩⟩
theorem da_walk {l : PySem.W.OpenLaw} {q : Program} {loose : List Str} {XP : (Str → Option Value) → Heap → Prop} {YP : World → Heap → Prop} {d : DefRec} {K : Params → PySem.W.Frag} (hn : l.most = some 63) (nodef : d.params.defaults = []) (nm : d.name = "law")
    (hY : ∀ (w : World) (h : Heap), YP w h → (K w.params).In h) (F : ∀ (w : World) (mg : Str → Option Value) (h : Heap), (K w.params).In h → h.Ns mainGlobals mg → Txt (K w.params) mg) : PySem.W.WalkO q loose XP YP l.row.toRowW d [] (fun f vs => PySem.call f vs) :=
  walkG (n := 63) (k := 10) (x := "script") (sp := spLaw) hn (by decide) nodef ⟨rfl, by decide, by decide⟩ hY (fun w mg f h kin G here => by
    have T := F w mg h kin G
    obtain ⟨f0, fd0, S0⟩ := T.d_law
    have e := S0.at_.symm.trans (nm ▸ here)
    cases e
    refine ⟨fd0, fun s u => ?_, fun base => ?_⟩
    · obtain ⟨oc, od, kV, doc, pm, an, cdv, ct, osl, rfl, _⟩ := S0.fn.ex
      exact .of_eq rfl
    · obtain ⟨f1, fd1, R, S1⟩ := D_law (P := l.prog) (w := w) (base := base) T
      have e1 := S1.at_.symm.trans S0.at_
      cases e1
      have e2 : fd1 = fd0 := by
        obtain ⟨oc, od, kV, doc, pm, an, cdv, ct, osl, rfl, lk, _⟩ := S0.fn.ex
        obtain ⟨oc', od', kV', doc', pm', an', cdv', ct', osl', rfl, lk', _⟩ := S1.fn.ex
        rw [lk] at lk'
        cases lk'
        rfl
      rw [← e2]
      exact R) fun K H a ns hl hS => ⟨a, ns, rfl, hS, hl, fun _ => rfl⟩
end L2.Hx

open PySem PySem.W PyProof.Rows in
set_option maxRecDepth 100000 in
set_option maxHeartbeats 0 in
theorem PySem.Challenge.cw_heldapart_k05_what_are_stores_and_heaps_holds : PySem.Challenge.rw_heldapart_k05_what_are_stores_and_heaps.Holds := by
  w_on; o_law; k_head; (case hw => w_witness2)
  k_fill
  refine L2.Hx.da_walk (l := PySem.Challenge.rw_heldapart_k05_what_are_stores_and_heaps) rfl rfl rfl (fun w h Y => PySem.W.kIn_of Y) ?F
  case F =>
    intro w mg h KX G
    have b_abs : mg "abs" = none := by
      refine PySem.W.mg_none_of KX G ?_
      k_is
    have b_all : mg "all" = none := by
      refine PySem.W.mg_none_of KX G ?_
      k_is
    have b_bool : mg "bool" = none := by
      refine PySem.W.mg_none_of KX G ?_
      k_is
    have b_enumerate : mg "enumerate" = none := by
      refine PySem.W.mg_none_of KX G ?_
      k_is
    have b_int : mg "int" = none := by
      refine PySem.W.mg_none_of KX G ?_
      k_is
    have b_isinstance : mg "isinstance" = none := by
      refine PySem.W.mg_none_of KX G ?_
      k_is
    have b_len : mg "len" = none := by
      refine PySem.W.mg_none_of KX G ?_
      k_is
    have b_list : mg "list" = none := by
      refine PySem.W.mg_none_of KX G ?_
      k_is
    have b_range : mg "range" = none := by
      refine PySem.W.mg_none_of KX G ?_
      k_is
    have b_repr : mg "repr" = none := by
      refine PySem.W.mg_none_of KX G ?_
      k_is
    have b_sorted : mg "sorted" = none := by
      refine PySem.W.mg_none_of KX G ?_
      k_is
    have b_str : mg "str" = none := by
      refine PySem.W.mg_none_of KX G ?_
      k_is
    have b_tuple : mg "tuple" = none := by
      refine PySem.W.mg_none_of KX G ?_
      k_is
    have c_WORDS : ∃ a, mg "WORDS" = some (.ref a) ∧ ∀ H, L2.SqT (L2.KOf KX) H a (L2.Hx.w_WORDS.map L2.V.str) := by
      dsimp only [L2.KOf]
      refine' L2.Hx.tup_of KX G ?e1_13 ?e2_13 ?e3_13
      (case e1_13 => k_is)
      (case e2_13 => k_is)
      (case e3_13 => exact ⟨rfl, rfl, by decide, by repeat (first | exact .nil | refine .cons ⟨_, rfl⟩ ?_)⟩)
    have x_LETTERS : mg "LETTERS" = some ?v_14 := by
      refine' PySem.W.mg_of KX G ?e1_14
      (case e1_14 => k_is)
    have c_LETTERS : ∃ t, mg "LETTERS" = some (.str "abcdefghijklmnopqrstuvwxyz" t) := ⟨_, x_LETTERS⟩
    have x_MAX_LETTERS : mg "MAX_LETTERS" = some ?v_15 := by
      refine' PySem.W.mg_of KX G ?e1_15
      (case e1_15 => k_is)
    have c_MAX_LETTERS : ∃ t, mg "MAX_LETTERS" = some (.int 8 t) := ⟨_, x_MAX_LETTERS⟩
    have d_is_term : ∃ f fd, L2.Hx.Src (L2.KOf KX) mg "is_term" L2.Hx.s_is_term ["value"] f fd := by
      dsimp only [L2.KOf]
      refine' L2.Hx.src_of KX G ?e1_16 ?e2_16 ?e3_16 ?e4_16 (fun _ _ _ _ _ _ us hl => match us, hl with | [_], _ => rfl)
      (case e1_16 => k_is)
      (case e2_16 => k_is)
      (case e3_16 => k_is)
      (case e4_16 => k_is)
    have d_is_name : ∃ f fd, L2.Hx.Src (L2.KOf KX) mg "is_name" L2.Hx.s_is_name ["value"] f fd := by
      dsimp only [L2.KOf]
      refine' L2.Hx.src_of KX G ?e1_17 ?e2_17 ?e3_17 ?e4_17 (fun _ _ _ _ _ _ us hl => match us, hl with | [_], _ => rfl)
      (case e1_17 => k_is)
      (case e2_17 => k_is)
      (case e3_17 => k_is)
      (case e4_17 => k_is)
    have d_store_error : ∃ f fd, L2.Hx.Src (L2.KOf KX) mg "store_error" L2.Hx.s_store_error ["value"] f fd := by
      dsimp only [L2.KOf]
      refine' L2.Hx.src_of KX G ?e1_18 ?e2_18 ?e3_18 ?e4_18 (fun _ _ _ _ _ _ us hl => match us, hl with | [_], _ => rfl)
      (case e1_18 => k_is)
      (case e2_18 => k_is)
      (case e3_18 => k_is)
      (case e4_18 => k_is)
    have d_heap_error : ∃ f fd, L2.Hx.Src (L2.KOf KX) mg "heap_error" L2.Hx.s_heap_error ["value"] f fd := by
      dsimp only [L2.KOf]
      refine' L2.Hx.src_of KX G ?e1_19 ?e2_19 ?e3_19 ?e4_19 (fun _ _ _ _ _ _ us hl => match us, hl with | [_], _ => rfl)
      (case e1_19 => k_is)
      (case e2_19 => k_is)
      (case e3_19 => k_is)
      (case e4_19 => k_is)
    have d_row_error : ∃ f fd, L2.Hx.Src (L2.KOf KX) mg "row_error" L2.Hx.s_row_error ["items", "fits"] f fd := by
      dsimp only [L2.KOf]
      refine' L2.Hx.src_of KX G ?e1_20 ?e2_20 ?e3_20 ?e4_20 (fun _ _ _ _ _ _ us hl => match us, hl with | [_, _], _ => rfl)
      (case e1_20 => k_is)
      (case e2_20 => k_is)
      (case e3_20 => k_is)
      (case e4_20 => k_is)
    have d_is_pair : ∃ f fd, L2.Hx.Src (L2.KOf KX) mg "is_pair" L2.Hx.s_is_pair ["value"] f fd := by
      dsimp only [L2.KOf]
      refine' L2.Hx.src_of KX G ?e1_21 ?e2_21 ?e3_21 ?e4_21 (fun _ _ _ _ _ _ us hl => match us, hl with | [_], _ => rfl)
      (case e1_21 => k_is)
      (case e2_21 => k_is)
      (case e3_21 => k_is)
      (case e4_21 => k_is)
    have d_is_named : ∃ f fd, L2.Hx.Src (L2.KOf KX) mg "is_named" L2.Hx.s_is_named ["value"] f fd := by
      dsimp only [L2.KOf]
      refine' L2.Hx.src_of KX G ?e1_22 ?e2_22 ?e3_22 ?e4_22 (fun _ _ _ _ _ _ us hl => match us, hl with | [_], _ => rfl)
      (case e1_22 => k_is)
      (case e2_22 => k_is)
      (case e3_22 => k_is)
      (case e4_22 => k_is)
    have d_is_value : ∃ f fd, L2.Hx.Src (L2.KOf KX) mg "is_value" L2.Hx.s_is_value ["value"] f fd := by
      dsimp only [L2.KOf]
      refine' L2.Hx.src_of KX G ?e1_23 ?e2_23 ?e3_23 ?e4_23 (fun _ _ _ _ _ _ us hl => match us, hl with | [_], _ => rfl)
      (case e1_23 => k_is)
      (case e2_23 => k_is)
      (case e3_23 => k_is)
      (case e4_23 => k_is)
    have d_is_address : ∃ f fd, L2.Hx.Src (L2.KOf KX) mg "is_address" L2.Hx.s_is_address ["value"] f fd := by
      dsimp only [L2.KOf]
      refine' L2.Hx.src_of KX G ?e1_24 ?e2_24 ?e3_24 ?e4_24 (fun _ _ _ _ _ _ us hl => match us, hl with | [_], _ => rfl)
      (case e1_24 => k_is)
      (case e2_24 => k_is)
      (case e3_24 => k_is)
      (case e4_24 => k_is)
    have d_l_deck : ∃ f fd, L2.Hx.Src (L2.KOf KX) mg "_law_deck" L2.Hx.s_l_deck ["script"] f fd := by
      dsimp only [L2.KOf]
      refine' L2.Hx.src_of KX G ?e1_25 ?e2_25 ?e3_25 ?e4_25 (fun _ _ _ _ _ _ us hl => match us, hl with | [_], _ => rfl)
      (case e1_25 => k_is)
      (case e2_25 => k_is)
      (case e3_25 => k_is)
      (case e4_25 => k_is)
    have d_l_draw : ∃ f fd, L2.Hx.Src (L2.KOf KX) mg "_law_draw" L2.Hx.s_l_draw ["deck", "many"] f fd := by
      dsimp only [L2.KOf]
      refine' L2.Hx.src_of KX G ?e1_26 ?e2_26 ?e3_26 ?e4_26 (fun _ _ _ _ _ _ us hl => match us, hl with | [_, _], _ => rfl)
      (case e1_26 => k_is)
      (case e2_26 => k_is)
      (case e3_26 => k_is)
      (case e4_26 => k_is)
    have d_l_pick : ∃ f fd, L2.Hx.Src (L2.KOf KX) mg "_law_pick" L2.Hx.s_l_pick ["deck", "items"] f fd := by
      dsimp only [L2.KOf]
      refine' L2.Hx.src_of KX G ?e1_27 ?e2_27 ?e3_27 ?e4_27 (fun _ _ _ _ _ _ us hl => match us, hl with | [_, _], _ => rfl)
      (case e1_27 => k_is)
      (case e2_27 => k_is)
      (case e3_27 => k_is)
      (case e4_27 => k_is)
    have d_l_shuffled : ∃ f fd, L2.Hx.Src (L2.KOf KX) mg "_law_shuffled" L2.Hx.s_l_shuffled ["deck", "items"] f fd := by
      dsimp only [L2.KOf]
      refine' L2.Hx.src_of KX G ?e1_28 ?e2_28 ?e3_28 ?e4_28 (fun _ _ _ _ _ _ us hl => match us, hl with | [_, _], _ => rfl)
      (case e1_28 => k_is)
      (case e2_28 => k_is)
      (case e3_28 => k_is)
      (case e4_28 => k_is)
    have d_l_words : ∃ f fd, L2.Hx.Src (L2.KOf KX) mg "_law_words" L2.Hx.s_l_words [] f fd := by
      dsimp only [L2.KOf]
      refine' L2.Hx.src_of KX G ?e1_29 ?e2_29 ?e3_29 ?e4_29 (fun _ _ _ _ _ _ us hl => match us, hl with | [], _ => rfl)
      (case e1_29 => k_is)
      (case e2_29 => k_is)
      (case e3_29 => k_is)
      (case e4_29 => k_is)
    have d_l_odd_value : ∃ f fd, L2.Hx.Src (L2.KOf KX) mg "_law_odd_value" L2.Hx.s_l_odd_value ["deck", "deep"] f fd := by
      dsimp only [L2.KOf]
      refine' L2.Hx.src_of KX G ?e1_30 ?e2_30 ?e3_30 ?e4_30 (fun _ _ _ _ _ _ us hl => match us, hl with | [_, _], _ => rfl)
      (case e1_30 => k_is)
      (case e2_30 => k_is)
      (case e3_30 => k_is)
      (case e4_30 => k_is)
    have d_l_is_name : ∃ f fd, L2.Hx.Src (L2.KOf KX) mg "_law_is_name" L2.Hx.s_l_is_name ["value"] f fd := by
      dsimp only [L2.KOf]
      refine' L2.Hx.src_of KX G ?e1_31 ?e2_31 ?e3_31 ?e4_31 (fun _ _ _ _ _ _ us hl => match us, hl with | [_], _ => rfl)
      (case e1_31 => k_is)
      (case e2_31 => k_is)
      (case e3_31 => k_is)
      (case e4_31 => k_is)
    have d_l_is_from : ∃ f fd, L2.Hx.Src (L2.KOf KX) mg "_law_is_from" L2.Hx.s_l_is_from ["value", "least"] f fd := by
      dsimp only [L2.KOf]
      refine' L2.Hx.src_of KX G ?e1_32 ?e2_32 ?e3_32 ?e4_32 (fun _ _ _ _ _ _ us hl => match us, hl with | [_, _], _ => rfl)
      (case e1_32 => k_is)
      (case e2_32 => k_is)
      (case e3_32 => k_is)
      (case e4_32 => k_is)
    have d_l_due : ∃ f fd, L2.Hx.Src (L2.KOf KX) mg "_law_due" L2.Hx.s_l_due ["value", "is_store"] f fd := by
      dsimp only [L2.KOf]
      refine' L2.Hx.src_of KX G ?e1_33 ?e2_33 ?e3_33 ?e4_33 (fun _ _ _ _ _ _ us hl => match us, hl with | [_, _], _ => rfl)
      (case e1_33 => k_is)
      (case e2_33 => k_is)
      (case e3_33 => k_is)
      (case e4_33 => k_is)
    have d_l_is_right : ∃ f fd, L2.Hx.Src (L2.KOf KX) mg "_law_is_right" L2.Hx.s_l_is_right ["value", "is_store", "is_named_v"] f fd := by
      dsimp only [L2.KOf]
      refine' L2.Hx.src_of KX G ?e1_34 ?e2_34 ?e3_34 ?e4_34 (fun _ _ _ _ _ _ us hl => match us, hl with | [_, _, _], _ => rfl)
      (case e1_34 => k_is)
      (case e2_34 => k_is)
      (case e3_34 => k_is)
      (case e4_34 => k_is)
    have d_l_store : ∃ f fd, L2.Hx.Src (L2.KOf KX) mg "_law_store" L2.Hx.s_l_store ["deck"] f fd := by
      dsimp only [L2.KOf]
      refine' L2.Hx.src_of KX G ?e1_35 ?e2_35 ?e3_35 ?e4_35 (fun _ _ _ _ _ _ us hl => match us, hl with | [_], _ => rfl)
      (case e1_35 => k_is)
      (case e2_35 => k_is)
      (case e3_35 => k_is)
      (case e4_35 => k_is)
    have d_l_heap : ∃ f fd, L2.Hx.Src (L2.KOf KX) mg "_law_heap" L2.Hx.s_l_heap ["deck", "many"] f fd := by
      dsimp only [L2.KOf]
      refine' L2.Hx.src_of KX G ?e1_36 ?e2_36 ?e3_36 ?e4_36 (fun _ _ _ _ _ _ us hl => match us, hl with | [_, _], _ => rfl)
      (case e1_36 => k_is)
      (case e2_36 => k_is)
      (case e3_36 => k_is)
      (case e4_36 => k_is)
    have d_l_odd_item : ∃ f fd, L2.Hx.Src (L2.KOf KX) mg "_law_odd_item" L2.Hx.s_l_odd_item ["deck", "own", "is_store"] f fd := by
      dsimp only [L2.KOf]
      refine' L2.Hx.src_of KX G ?e1_37 ?e2_37 ?e3_37 ?e4_37 (fun _ _ _ _ _ _ us hl => match us, hl with | [_, _, _], _ => rfl)
      (case e1_37 => k_is)
      (case e2_37 => k_is)
      (case e3_37 => k_is)
      (case e4_37 => k_is)
    have d_l_turned : ∃ f fd, L2.Hx.Src (L2.KOf KX) mg "_law_turned" L2.Hx.s_l_turned ["deck", "value", "is_store"] f fd := by
      dsimp only [L2.KOf]
      refine' L2.Hx.src_of KX G ?e1_38 ?e2_38 ?e3_38 ?e4_38 (fun _ _ _ _ _ _ us hl => match us, hl with | [_, _, _], _ => rfl)
      (case e1_38 => k_is)
      (case e2_38 => k_is)
      (case e3_38 => k_is)
      (case e4_38 => k_is)
    have d_law : ∃ f fd, L2.Hx.Src (L2.KOf KX) mg "law" L2.Hx.s_law ["script"] f fd := by
      dsimp only [L2.KOf]
      refine' L2.Hx.src_of KX G ?e1_39 ?e2_39 ?e3_39 ?e4_39 (fun _ _ _ _ _ _ us hl => match us, hl with | [_], _ => rfl)
      (case e1_39 => k_is)
      (case e2_39 => k_is)
      (case e3_39 => k_is)
      (case e4_39 => k_is)
    exact ⟨b_abs, b_all, b_bool, b_enumerate, b_int, b_isinstance, b_len, b_list, b_range, b_repr, b_sorted, b_str, b_tuple, c_WORDS, c_LETTERS, c_MAX_LETTERS, d_is_term, d_is_name, d_store_error, d_heap_error, d_row_error, d_is_pair, d_is_named, d_is_value, d_is_address, d_l_deck, d_l_draw, d_l_pick, d_l_shuffled, d_l_words, d_l_odd_value, d_l_is_name, d_l_is_from, d_l_due, d_l_is_right, d_l_store, d_l_heap, d_l_odd_item, d_l_turned, d_law⟩

